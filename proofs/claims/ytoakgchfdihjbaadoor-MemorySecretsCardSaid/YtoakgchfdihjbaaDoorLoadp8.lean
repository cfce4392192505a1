/-
  The program: Load.
-/
import Derived.Test.YtoakgchfdihjbaaDoorWritep8
set_option linter.unusedSimpArgs false
set_option linter.unusedVariables false
namespace Go.Proofs.YtoakgchfdihjbaaDoor
open Go.RowKit Go.PlainAid

theorem loadM_snoc (b : Int) : ∀ (l : List Int) (M : Int → Int × Int) (a : Int), loadM M a (l ++ [b]) = setM (loadM M a l) (a + l.length) (b, 0)
  | [], M, a => by simp [loadM]
  | x :: r, M, a => by
    rw [List.cons_append, loadM, loadM, loadM_snoc b r]
    simp only [List.length_cons]
    rw [show a + 1 + (r.length : Int) = a + ((r.length + 1 : Nat) : Int) by omega]
/-- Where the last byte of a load would lie: that of none counts as one. -/
def lastA (a : Int) (m : Nat) : Int := if m = 0 then a else a + m - 1
def loadMp (M : Int → Int × Int) (a : Int) (bs : List Int) : Int × (Int → Int × Int) := if onlyB a (lastA a bs.length) = true then (0, loadM M a bs) else (10, M)
theorem onlyB_real {f t : Int} (h : onlyB f t = true) : 0 ≤ f ∧ f ≤ t ∧ t < 65536 := by
  rw [onlyB_eq] at h
  simp only [Bool.not_eq_true', Bool.or_eq_false_iff, Bool.not_eq_false', decide_eq_false_iff_not] at h
  have h2 := h.2
  unfold oneB ramB romB at h2
  simp only [Bool.or_eq_true, Bool.and_eq_true, decide_eq_true_eq] at h2
  omega
theorem onlyB_out {f t : Int} (h : ¬ (0 ≤ f ∧ f < 65536)) : onlyB f t = false := by
  cases e : onlyB f t
  · rfl
  · exact absurd (onlyB_real e) (by omega)
theorem lastA_wrap (a : Int) (m : Nat) (hm : m ≤ 100000) : onlyB a (IntKind.i64.wrap (IntKind.i64.wrap (a + (if m = 0 then 1 else (m : Int))) - 1)) = onlyB a (lastA a m) := by
  by_cases h : 0 ≤ a ∧ a < 65536
  · unfold lastA
    split
    · rw [IntWalk.i64_in (a + 1) (by omega), IntWalk.i64_in _ (by omega)]
      congr 1; omega
    · rw [IntWalk.i64_in (a + (m : Int)) (by omega), IntWalk.i64_in _ (by omega)]
  · rw [onlyB_out h, onlyB_out h]
set_option maxRecDepth 100000 in
theorem loadn_c (a : Int) (v : Value) (w : World) : Calls Tryd.prog 22 #[.pointer none, .int .i64 a, v] w fun e w' => e = .returned (.int .i64 2) ∧ Below w.heap.size w w' := by
  go_enter Tryd.func22, Tryd.ntmps22
  go_wp2
  go_ret
  exact ⟨rfl, by go_grown⟩
set_option maxRecDepth 100000 in
set_option maxHeartbeats 2000000 in
theorem loadp_c (M : Int → Int × Int) (a : Int) (bs : List Int) (hbl : bs.length ≤ 100000) (mb bb : Nat) (bv : Value) (w : World) (hP : Pm mb bb w M) (hL : Laid w) (hv : HoldsB w bv bs) (hg : 0 < bs.length → ∀ g, bv.ownBlock = some g → g ≠ bb) :
    Calls Tryd.prog 22 #[.pointer (some ⟨mb, 0, none⟩), .int .i64 a, bv] w (MemEnd mb bb w (loadMp M a bs).1 (loadMp M a bs).2) := by
  obtain ⟨R, hR⟩ : ∃ R, loadMp M a bs = R := ⟨_, rfl⟩
  rw [hR]
  have HR := Lib.hid hR
  clear hR
  unfold loadMp at HR
  have HP := Lib.hid hP
  have HV := Lib.hid hv
  have HG := Lib.hid hg
  have hm_0 := hP.c0
  have hmw : mb < w.heap.size := klt hm_0
  have hbw := hP.lt
  obtain ⟨bp, bc, rfl⟩ := hv.form
  obtain ⟨m, hm⟩ : ∃ m, bs.length = m := ⟨_, rfl⟩
  rw [hm] at HR hbl ⊢
  have HN := Lib.hid hm
  have HK0 := Lib.hid (fun W (hb : Below w.heap.size w W) (h0 : m = 0) => show Calls Tryd.prog 32 #[.int .i64 a, .int .i64 (wrap64 (wrap64 (a + 1) - 1))] W (fun e w' => e = .returned (.bool (onlyB a (lastA a m))) ∧ Below W.heap.size W w') from by
    have e := lastA_wrap a m hbl
    rw [if_pos h0] at e
    have e2 : IntKind.i64.wrap (IntKind.i64.wrap (a + 1) - 1) = wrap64 (wrap64 (a + 1) - 1) := by simp only [IntWalk.i64_left]
    rw [← e, e2]
    exact onep_c a _ W (hL.below hb))
  have HK1 := Lib.hid (fun W (hb : Below w.heap.size w W) (h0 : ¬ m = 0) => show Calls Tryd.prog 32 #[.int .i64 a, .int .i64 (wrap64 (wrap64 (a + m) - 1))] W (fun e w' => e = .returned (.bool (onlyB a (lastA a m))) ∧ Below W.heap.size W w') from by
    have e := lastA_wrap a m hbl
    rw [if_neg h0] at e
    have e2 : IntKind.i64.wrap (IntKind.i64.wrap (a + m) - 1) = wrap64 (wrap64 (a + m) - 1) := by simp only [IntWalk.i64_left]
    rw [← e, e2]
    exact onep_c a _ W (hL.below hb))
  have HA := Lib.hid (show onlyB a (lastA a m) = true → 0 ≤ a ∧ lastA a m < 65536 from fun h => ⟨(onlyB_real h).1, (onlyB_real h).2.2⟩)
  obtain ⟨O, hO⟩ : ∃ O, onlyB a (lastA a m) = O := ⟨_, rfl⟩
  rw [hO] at HR HA HK0 HK1
  clear hP hv hg hm hO
  go_enter Tryd.func22, Tryd.ntmps22
  go_upto_region 3 with fail
  go_cut [19] (fun s19 wx => s19 = .bool (!O) ∧ wx.cell? ⟨mb, 0, none⟩ = some (.pointer (some ⟨bb, 0, none⟩)) ∧ Below w.heap.size w wx)
  case first =>
    by_cases h0 : m = 0
    · have hm1 : ¬ (1 : Int) ≤ (m : Int) := by omega
      have H0 := Lib.hid h0
      clear h0
      go_wp2_with fail
      ((with_reducible refine (HK0.out _ (by go_grown) H0.out).mono ?_); rintro _ u1 ⟨rfl, hb⟩)
      have T : u1.cell? ⟨mb, 0, none⟩ = some (.pointer (some ⟨bb, 0, none⟩)) := by
          refine kc hb ?_ <;> (go_simp; first | done | rfl)
      have hz := hb.size
      (try simp only [World.size_alloc, World.size_setCell, World.size_drew] at hz)
      have L : mb < u1.heap.size := by omega
      have hB' : Below w.heap.size w u1 := by
          refine kb ?_ hb
          go_grown
      clear hb hz
      have hm_0 := T; clear T
      have hlm := L; clear L
      obtain ⟨hnm0, hnm1, hkm1, hnm2, hkm2⟩ := ap0 hlm
      have hB := hB'; clear hB'
      have hsz := hB.size
      go_wp2_with fail
      go_meet
      exact ⟨rfl, ⟨hm_0, hB⟩⟩
    · have hm1 : (1 : Int) ≤ (m : Int) := by omega
      have H0 := Lib.hid h0
      clear h0
      go_wp2_with fail
      ((with_reducible refine (HK1.out _ (by go_grown) H0.out).mono ?_); rintro _ u1 ⟨rfl, hb⟩)
      have T : u1.cell? ⟨mb, 0, none⟩ = some (.pointer (some ⟨bb, 0, none⟩)) := by
          refine kc hb ?_ <;> (go_simp; first | done | rfl)
      have hz := hb.size
      (try simp only [World.size_alloc, World.size_setCell, World.size_drew] at hz)
      have L : mb < u1.heap.size := by omega
      have hB' : Below w.heap.size w u1 := by
          refine kb ?_ hb
          go_grown
      clear hb hz
      have hm_0 := T; clear T
      have hlm := L; clear L
      obtain ⟨hnm0, hnm1, hkm1, hnm2, hkm2⟩ := ap0 hlm
      have hB := hB'; clear hB'
      have hsz := hB.size
      go_wp2_with fail
      go_meet
      exact ⟨rfl, ⟨hm_0, hB⟩⟩
  case rest =>
    obtain ⟨wd, hwd⟩ : ∃ W, W = wc := ⟨_, rfl⟩
    rw [← hwd] at hcut ⊢
    clear hwd
    obtain ⟨rfl, hcut⟩ := hcut
    obtain ⟨hm_0, hB⟩ := hcut
    have hsz := hB.size
    have hlm := klt hm_0
    obtain ⟨hnm0, hnm1, hkm1, hnm2, hkm2⟩ := ap0 hlm
    cases O
    · have HF := Lib.hid (show R = (10, M) from by rw [← HR.out]; rfl)
      go_wp2
      go_ret
      exact memEnd_same HF.out HP.out hB
    · have HF := Lib.hid (show R = (0, loadM M a bs) from by rw [← HR.out]; rfl)
      have HAA := Lib.hid (show ∀ k : Nat, k < m → 0 ≤ a + (k : Int) ∧ a + (k : Int) < 65536 from fun k hk => by
        have h := HA.out rfl
        unfold lastA at h
        rw [if_neg (by omega)] at h
        omega)
      have HPd := Lib.hid (HP.out.below hB)
      have HBd := Lib.hid (show w.grownBy wd (some bb) from grown_below hB)
      go_wp2_with fail
      go_loopw [22] (fun s22 wr => ∃ k : Nat, k ≤ m ∧ s22 = .int .i64 k ∧ Hid (Pm mb bb wr (loadM M a (bs.take k))) ∧ Hid (w.grownBy wr (some bb))) (fun i _ => m - (intOf i).toNat)
      case atStart => exact ⟨0, Nat.zero_le _, rfl, Lib.hid (by rw [List.take_zero]; exact HPd.out), HBd⟩
      case round =>
        obtain ⟨k, hk, rfl, HPr, HGr⟩ := hrel
        clear hB hsz hlm hnm0 hnm1 hkm1 hnm2 hkm2 hm_0
        by_cases hlt2 : k < m
        · have hd : decide ((k : Int) < (m : Int)) = true := decide_eq_true (by omega)
          have hlk : k < bs.length := by rw [HN.out]; exact hlt2
          obtain ⟨g, o, cap, e1, hcap, hcc⟩ := HV.out.some (by omega)
          obtain ⟨rfl, n1, rfl⟩ := Value.slice.inj e1
          clear e1 n1
          have hgm := HG.out (by omega) g rfl
          obtain ⟨x, hx⟩ : ∃ x, bs[k]? = some x := ⟨_, List.getElem?_eq_getElem hlk⟩
          have hx0 := hcc k x hx 0 _ rfl
          rw [Nat.mul_one, Nat.add_zero] at hx0
          have hx_0 := HGr.out.cell hx0 (by simpa using hgm)
          have HS := Lib.hid (show loadM M a (bs.take (k + 1)) = setM (loadM M a (bs.take k)) (a + (k : Int)) (x, 0) from by
            rw [List.take_add_one, hx, Option.toList_some, loadM_snoc, List.length_take, Nat.min_eq_left (by omega)])
          obtain ⟨j, hj⟩ : ∃ j : Nat, a + (k : Int) = (j : Int) := ⟨(a + (k : Int)).toNat, by have := HAA.out k hlt2; omega⟩
          have hj6 : j < 65536 := by have := HAA.out k hlt2; omega
          have hw1 : IntKind.i64.wrap (a + (k : Int)) = (j : Int) := by rw [hj]; exact IntWalk.i64_in _ (by omega)
          have hw2 : IntKind.i64.wrap ((k : Int) + 1) = (k : Int) + 1 := IntWalk.i64_in _ (by omega)
          have hin : (0 : Int) ≤ (k : Int) ∧ (k : Int) < (m : Int) := by omega
          have hin2 : (0 : Int) ≤ (j : Int) ∧ (j : Int) < 65536 := by omega
          have HJ := Lib.hid hj
          have hmr_0 := HPr.out.c0
          have y0 := HPr.out.at0 j hj6
          have y1 := HPr.out.at1 j hj6
          have z0 := HPr.out.free (j * 2)
          have z1 := HPr.out.free (j * 2 + 1)
          have hbr := HPr.out.lt
          clear hcc hx hx0 hj
          go_wp2
          go_roundw
          case rel => exact ⟨k + 1, by omega, by go_num, Lib.hid (by rw [HS.out, HJ.out]; exact HPr.out.set j hj6 x 0), Lib.hid (grown_set (grown_set HGr.out))⟩
          case measure => simp [intOf] <;> omega
        · have hkm : k = m := by omega
          have hd : decide ((k : Int) < (m : Int)) = false := decide_eq_false (by omega)
          have HFIN := Lib.hid (show Pm mb bb wr (loadM M a bs) from by have := HPr.out; rw [hkm, ← HN.out, List.take_length] at this; exact this)
          go_wp2
          go_ret
          have hf := HF.out
          subst hf
          exact ⟨rfl, HGr.out, HFIN.out⟩
end Go.Proofs.YtoakgchfdihjbaaDoor
