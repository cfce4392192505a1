/-
  Layer 8's document: Load.
-/
import Derived.Test.YtoakgchfdihjbaaDoorWrite8
set_option linter.unusedSimpArgs false
set_option linter.unusedVariables false
namespace Go.Proofs.YtoakgchfdihjbaaDoor
open Go.RowKit Go.PlainAid

/-- Bytes, not secret, from an address on. -/
def putsP (a : Int) : List Int → List Pt
  | [] => []
  | b :: r => ⟨a, b, 0⟩ :: putsP (a + 1) r
theorem putsP_snoc (b : Int) : ∀ (l : List Int) (a : Int), putsP a (l ++ [b]) = putsP a l ++ [⟨a + l.length, b, 0⟩]
  | [], a => by simp [putsP]
  | x :: r, a => by
    rw [List.cons_append, putsP, putsP, putsP_snoc b r (a + 1), List.cons_append]
    simp only [List.length_cons]
    rw [show a + 1 + (r.length : Int) = a + ((r.length + 1 : Nat) : Int) by omega]
theorem putsP_len : ∀ (l : List Int) (a : Int), (putsP a l).length = l.length
  | [], a => rfl
  | x :: r, a => by rw [putsP, List.length_cons, List.length_cons, putsP_len r]
def byE (x : Int) : List Value := [.int .u8 x]
abbrev HoldsB := HoldsE byE 1
def loadP (L : List Pt) (a : Int) (bs : List Int) : Int × List Pt := if ((!ramB a && !romB a) || (decide ((0 : Int) < (bs.length : Int)) && !oneB a (a + bs.length - 1))) = true then (10, L) else (0, L ++ putsP a bs)
set_option maxRecDepth 100000 in
set_option maxHeartbeats 2000000 in
theorem loadr_c (L : List Pt) (hl : L.length ≤ 100000) (a : Int) (bs : List Int) (hbl : bs.length ≤ 100000) (mb S0 : Nat) (v bv : Value) (w : World) (hR : Rm mb S0 w L v) (hv : HoldsB w bv bs) (hg : 0 < bs.length → ∀ g, bv.ownBlock = some g → g < S0 ∧ g ≠ mb) :
    Calls Tryd.prog 26 #[.pointer (some ⟨mb, 0, none⟩), .int .i64 a, bv] w (PutEnd mb S0 w (loadP L a bs).1 (loadP L a bs).2) := by
  have H1 := Lib.hid (fun W => ramr_c a W)
  have H2 := Lib.hid (fun W => romr_c a W)
  have H3 := Lib.hid (fun W => oner_c a (a + bs.length - 1) W)
  obtain ⟨R, hRR⟩ : ∃ R, loadP L a bs = R := ⟨_, rfl⟩
  rw [hRR]
  have HR := Lib.hid hRR
  clear hRR
  unfold loadP at HR
  have HM := Lib.hid hR
  have HV := Lib.hid hv
  have HG := Lib.hid hg
  have hlt := hR.lt
  have hsz0 := hR.sz
  have hm_0 := hR.c0
  have hmw : mb < w.heap.size := klt hm_0
  obtain ⟨bp, bc, rfl⟩ := hv.form
  obtain ⟨m, hm⟩ : ∃ m, bs.length = m := ⟨_, rfl⟩
  rw [hm] at H3 HR hbl ⊢
  have HN := Lib.hid hm
  have HW := Lib.hid (show (ramB a = true ∨ romB a = true) → IntKind.i64.wrap (a + (m : Int)) = a + m ∧ IntKind.i64.wrap (a + (m : Int) - 1) = a + m - 1 from fun h => by
    have h2 : 0 ≤ a ∧ a < 65536 := by
      unfold ramB romB at h
      simp only [Bool.and_eq_true, decide_eq_true_eq] at h
      omega
    exact ⟨IntWalk.i64_in _ (by omega), IntWalk.i64_in _ (by omega)⟩)
  have HA := Lib.hid (show (ramB a = true ∨ romB a = true) → 0 ≤ a ∧ a < 65536 from fun h => by
    unfold ramB romB at h
    simp only [Bool.and_eq_true, decide_eq_true_eq] at h
    omega)
  obtain ⟨BAD, hZ⟩ : ∃ B, ((!ramB a && !romB a) || (decide ((0 : Int) < (m : Int)) && !oneB a (a + m - 1))) = B := ⟨_, rfl⟩
  rw [hZ] at HR
  have HZ := Lib.hid hZ.symm
  generalize ramB a = R1 at *
  generalize romB a = R2 at *
  generalize oneB a (a + (m : Int) - 1) = O at *
  have hb_0 : w.cell? ⟨mb, 0, none⟩ = some v := hm_0
  have fb_0 := hR.fr
  clear hR hm hv hg hZ hm_0
  go_enter Tryd.func26, Tryd.ntmps26
  go_upto_region 1 with fail
  go_cut [30] (fun s30 wx => s30 = .bool BAD ∧ wx.cell? ⟨mb, 0, none⟩ = some (v) ∧ wx.frozen? ⟨mb, 0, none⟩ = false ∧ Below w.heap.size w wx)
  case first =>
    go_wp2_with fail
    ((with_reducible refine (H1.out _).mono ?_); rintro _ u1 ⟨rfl, hb⟩)
    have T : CF u1 mb 0 (v) := by
        refine ⟨?_, ?_⟩ <;> first | (refine kc hb ?_ <;> (go_simp; first | done | rfl)) | (refine kfz hb ?_ ?_ <;> first | (go_size; done) | (go_simp; done))
    have hz := hb.size
    (try simp only [World.size_alloc, World.size_setCell, World.size_drew] at hz)
    have L : mb < u1.heap.size := by omega
    have hB' : Below w.heap.size w u1 := by
        refine kb ?_ hb
        go_grown
    clear hb hz
    obtain ⟨hb_0, fb_0⟩ := T
    have hlb := L; clear L
    obtain ⟨hnb0, hnb1, hkb1, hnb2, hkb2⟩ := ap0 hlb
    have hB := hB'; clear hB'
    have hsz := hB.size
    cases R1
    · go_wp2_with fail
      ((with_reducible refine (H2.out _).mono ?_); rintro _ u2 ⟨rfl, hb⟩)
      have T : CF u2 mb 0 (v) := by
          refine ⟨?_, ?_⟩ <;> first | (refine kc hb ?_ <;> (go_simp; first | done | rfl)) | (refine kfz hb ?_ ?_ <;> first | (go_size; done) | (go_simp; done))
      have hz := hb.size
      (try simp only [World.size_alloc, World.size_setCell, World.size_drew] at hz)
      have L : mb < u2.heap.size := by omega
      have hB' : Below w.heap.size w u2 := by
          refine kb ?_ hb
          go_grown
      clear hb_0 fb_0 hlb hnb0 hnb1 hkb1 hnb2 hkb2 hB hsz
      clear hb hz
      obtain ⟨hb_0, fb_0⟩ := T
      have hlb := L; clear L
      obtain ⟨hnb0, hnb1, hkb1, hnb2, hkb2⟩ := ap0 hlb
      have hB := hB'; clear hB'
      have hsz := hB.size
      cases R2
      · go_wp2_with fail
        go_meet
        exact ⟨by rw [HZ.out]; rfl, ⟨hb_0, fb_0, hB⟩⟩
      · skip
        obtain ⟨w1, w2⟩ := HW.out (by simp)
        by_cases hz : 0 < m
        · have hZ : decide ((0 : Int) < (m : Int)) = true := decide_eq_true (by omega)
          go_wp2_with fail
          ((with_reducible refine (H3.out _).mono ?_); rintro _ u3 ⟨rfl, hb⟩)
          have T : CF u3 mb 0 (v) := by
              refine ⟨?_, ?_⟩ <;> first | (refine kc hb ?_ <;> (go_simp; first | done | rfl)) | (refine kfz hb ?_ ?_ <;> first | (go_size; done) | (go_simp; done))
          have hz := hb.size
          (try simp only [World.size_alloc, World.size_setCell, World.size_drew] at hz)
          have L : mb < u3.heap.size := by omega
          have hB' : Below w.heap.size w u3 := by
              refine kb ?_ hb
              go_grown
          clear hb_0 fb_0 hlb hnb0 hnb1 hkb1 hnb2 hkb2 hB hsz
          clear hb hz
          obtain ⟨hb_0, fb_0⟩ := T
          have hlb := L; clear L
          obtain ⟨hnb0, hnb1, hkb1, hnb2, hkb2⟩ := ap0 hlb
          have hB := hB'; clear hB'
          have hsz := hB.size
          cases O
          · go_wp2_with fail
            go_meet
            exact ⟨by rw [HZ.out, hZ]; rfl, ⟨hb_0, fb_0, hB⟩⟩
          · go_wp2_with fail
            go_meet
            exact ⟨by rw [HZ.out, hZ]; rfl, ⟨hb_0, fb_0, hB⟩⟩
        · have hZ : decide ((0 : Int) < (m : Int)) = false := decide_eq_false (by omega)
          go_wp2_with fail
          go_meet
          exact ⟨by rw [HZ.out, hZ]; rfl, ⟨hb_0, fb_0, hB⟩⟩
    · skip
      obtain ⟨w1, w2⟩ := HW.out (by simp)
      by_cases hz : 0 < m
      · have hZ : decide ((0 : Int) < (m : Int)) = true := decide_eq_true (by omega)
        go_wp2_with fail
        ((with_reducible refine (H3.out _).mono ?_); rintro _ u3 ⟨rfl, hb⟩)
        have T : CF u3 mb 0 (v) := by
            refine ⟨?_, ?_⟩ <;> first | (refine kc hb ?_ <;> (go_simp; first | done | rfl)) | (refine kfz hb ?_ ?_ <;> first | (go_size; done) | (go_simp; done))
        have hz := hb.size
        (try simp only [World.size_alloc, World.size_setCell, World.size_drew] at hz)
        have L : mb < u3.heap.size := by omega
        have hB' : Below w.heap.size w u3 := by
            refine kb ?_ hb
            go_grown
        clear hb_0 fb_0 hlb hnb0 hnb1 hkb1 hnb2 hkb2 hB hsz
        clear hb hz
        obtain ⟨hb_0, fb_0⟩ := T
        have hlb := L; clear L
        obtain ⟨hnb0, hnb1, hkb1, hnb2, hkb2⟩ := ap0 hlb
        have hB := hB'; clear hB'
        have hsz := hB.size
        cases O
        · go_wp2_with fail
          go_meet
          exact ⟨by rw [HZ.out, hZ]; rfl, ⟨hb_0, fb_0, hB⟩⟩
        · go_wp2_with fail
          go_meet
          exact ⟨by rw [HZ.out, hZ]; rfl, ⟨hb_0, fb_0, hB⟩⟩
      · have hZ : decide ((0 : Int) < (m : Int)) = false := decide_eq_false (by omega)
        go_wp2_with fail
        go_meet
        exact ⟨by rw [HZ.out, hZ]; rfl, ⟨hb_0, fb_0, hB⟩⟩
  case rest =>
    obtain ⟨wd, hwd⟩ : ∃ W, W = wc := ⟨_, rfl⟩
    rw [← hwd] at hcut ⊢
    clear hwd
    obtain ⟨rfl, hcut⟩ := hcut
    obtain ⟨hb_0, fb_0, hB⟩ := hcut
    have hsz := hB.size
    have hlb := klt hb_0
    obtain ⟨hnb0, hnb1, hkb1, hnb2, hkb2⟩ := ap0 hlb
    cases BAD
    · have HF := Lib.hid (show R = (0, L ++ putsP a bs) from by rw [← HR.out]; rfl)
      have HWA := Lib.hid (show ∀ k : Nat, k < m → IntKind.i64.wrap (a + (k : Int)) = a + k from fun k hk => by
        have hr : R1 = true ∨ R2 = true := by
          have h := HZ.out
          cases R1
          · cases R2
            · cases h
            · exact .inr rfl
          · exact .inl rfl
        have := HA.out hr
        exact IntWalk.i64_in _ (by omega))
      obtain ⟨i0, hi, hz0, hz1, hz2⟩ := info_parts Tryd.infoP
      have HMd := Lib.hid (HM.out.on hB)
      have HKd := Lib.hid (Kp.of_below hB hlt hsz0)
      clear HM
      go_wp2_with fail
      go_loopw [7] (fun s7 wr => ∃ k : Nat, k ≤ m ∧ s7 = .int .i64 k ∧ Hid (∃ v, Rm mb S0 wr (L ++ putsP a (bs.take k)) v) ∧ Hid (Kp mb S0 w wr)) (fun i _ => m - (intOf i).toNat)
      case atStart => exact ⟨0, Nat.zero_le _, rfl, Lib.hid ⟨v, by rw [List.take_zero]; simpa [putsP] using HMd.out⟩, HKd⟩
      case round =>
        obtain ⟨k, hk, rfl, HRm, HK⟩ := hrel
        obtain ⟨v2, hRm⟩ := HRm.out
        clear hb_0 fb_0 hB hsz hlb hnb0 hnb1 hkb1 hnb2 hkb2
        by_cases hlt2 : k < m
        · have hd : decide ((k : Int) < (m : Int)) = true := decide_eq_true (by omega)
          have hlk : k < bs.length := by rw [HN.out]; exact hlt2
          obtain ⟨g, o, cap, e1, hcap, hcc⟩ := HV.out.some (by omega)
          obtain ⟨rfl, n1, rfl⟩ := Value.slice.inj e1
          clear e1 n1
          obtain ⟨hgs, hgm⟩ := HG.out (by omega) g rfl
          obtain ⟨x, hx⟩ : ∃ x, bs[k]? = some x := ⟨_, List.getElem?_eq_getElem hlk⟩
          have hx0 := hcc k x hx 0 _ rfl
          rw [Nat.mul_one, Nat.add_zero] at hx0
          have hx_0 := HK.out.cell hgs hgm hx0
          have hsnoc : putsP a (bs.take (k + 1)) = putsP a (bs.take k) ++ [⟨a + (k : Int), x, 0⟩] := by
            rw [List.take_add_one, hx, Option.toList_some, putsP_snoc, List.length_take, Nat.min_eq_left (by omega)]
          have HS := Lib.hid hsnoc
          have hw1 := HWA.out k hlt2
          have hw2 : IntKind.i64.wrap ((k : Int) + 1) = (k : Int) + 1 := IntWalk.i64_in _ (by omega)
          have hgw := klt hx_0
          obtain ⟨p2, c2, rfl⟩ := own_form hRm.ow
          have hll : (L ++ putsP a (bs.take k)).length = L.length + k := by rw [List.length_append, putsP_len, List.length_take, Nat.min_eq_left (by omega)]
          obtain ⟨n2, hn2⟩ : ∃ n, (L ++ putsP a (bs.take k)).length = n := ⟨_, rfl⟩
          have HN2 := Lib.hid hn2
          have HMr := Lib.hid (show Rm mb S0 wr (L ++ putsP a (bs.take k)) (.slice p2 n2 c2) from by rw [← hn2]; exact hRm)
          have hbm_0 := hRm.c0
          have fbm_0 := hRm.fr
          have hmwr : mb < wr.heap.size := klt hbm_0
          have hswr := hRm.sz
          have HO := Lib.hid (show wr.ownsRow S0 41 3 (.slice p2 n2 c2) n2 _ from by have := hRm.ow; rw [hn2] at this; exact this)
          rw [hn2] at hbm_0
          have hn2b : n2 ≤ 200000 := by omega
          have hin : (0 : Int) ≤ (k : Int) ∧ (k : Int) < (m : Int) := by omega
          have hbr : Below wr.heap.size wr wr := Below.refl _ _
          clear hRm hcc hx hx0 hsnoc hll hn2 HRm
          go_wp2_with fail
          go_region_law (refine step_append_own rfl (.tmp 41) (.tmp 51) 28 rfl S0 41 i0 _ 3 16 Tryd.underlying28 hi hz0 hz1 hz2 rfl (by decide) _ n2 _ (by simp [Act.eval, Act.put]) (own_below HO.out (by go_grown)) ⟨wr.heap.size, 0, none⟩ 1 1 ([(⟨a + (k : Int), x, 0⟩ : Pt)].flatMap Pt.cells) (by simp [Act.eval, Act.put]) rfl (pt_cells_at 41 ⟨a + (k : Int), x, 0⟩) (one_cells pt_one _) (by unfold maxLen; omega) (by omega) (by simp; omega) ?_; intro v' w' hown' hg _ hat; obtain ⟨p', cp', rfl⟩ := own_form hown'; have tc : w'.cell? ⟨mb, 0, none⟩ = some (.slice p2 n2 c2) := grown_cell (own_below HO.out (by go_grown)) hg hlt (by go_simp); have tf : w'.frozen? ⟨mb, 0, none⟩ = false := grown_frozen (own_below HO.out (by go_grown)) hg hlt (by simp; omega) (by go_simp); have HGG := Lib.hid (And.intro hown' (And.intro hg hat)); clear hown' hg hat)
          all_goals
            have HPP := Lib.hid (Rm.app HMr.out (by go_grown) ⟨a + (k : Int), x, 0⟩ HGG.out.2.1 (by rw [HN2.out]; exact HGG.out.1))
            go_wp2
            go_roundw
            case rel => exact ⟨k + 1, by omega, by go_num, Lib.hid ⟨_, by rw [HS.out, ← List.append_assoc]; exact HPP.out.1⟩, Lib.hid (HK.out.trans HPP.out.2)⟩
            case measure => simp [intOf] <;> omega
        · have hkm : k = m := by omega
          have hd : decide ((k : Int) < (m : Int)) = false := decide_eq_false (by omega)
          have HFIN := Lib.hid (show Rm mb S0 wr (L ++ putsP a bs) v2 from by have := hRm; rw [hkm, ← HN.out, List.take_length] at this; exact this)
          go_wp2
          go_ret
          rw [HF.out]
          exact ⟨rfl, HK.out, v2, HFIN.out⟩
    · have HF := Lib.hid (show R = (10, L) from by rw [← HR.out]; rfl)
      go_wp2
      go_ret
      exact putEnd_same HF.out HM.out hB
end Go.Proofs.YtoakgchfdihjbaaDoor
