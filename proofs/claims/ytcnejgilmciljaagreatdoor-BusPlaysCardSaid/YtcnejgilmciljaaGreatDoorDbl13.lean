/-
  The document's bus: Load and Label of its memory (genld13.py writes them, off memory's texts).
-/
import Derived.Test.YtcnejgilmciljaaGreatDoorObj11
import Derived.Test.YtcnejgilmciljaaGreatDoorCorr8
set_option linter.unusedSimpArgs false
set_option linter.unusedVariables false
namespace Go.Proofs.YtcnejgilmciljaaGreatDoor
open Go.RowKit Go.PlainAid

set_option maxRecDepth 100000 in
set_option maxHeartbeats 2000000 in
theorem loadm_c (L : List Pt) (hl : L.length ≤ 100000) (a : Int) (bs : List Int) (hbl : bs.length ≤ 100000) (rb : Nat) (v bv : Value) (S : Po) (x0 y0 a0 b0 c0 d0 : Value) (w : World) (hR : Db rb L v S x0 y0 a0 b0 c0 d0 w) (hv : HoldsB w bv bs) (hg : 0 < bs.length → ∀ g, bv.ownBlock = some g → ¬ foot rb (rB L v S a0 b0 c0 d0) g) :
    Calls Tryz.prog 38 #[.pointer (some ⟨rb, 0, none⟩), .int .i64 a, bv] w (MemEndB rb L v S x0 y0 a0 b0 c0 d0 (loadP L a bs).1 (loadP L a bs).2 w) := by
  have H1 := Lib.hid (fun W => ramr_c a W)
  have H2 := Lib.hid (fun W => romr_c a W)
  have H3 := Lib.hid (fun W => oner_c a (a + bs.length - 1) W)
  obtain ⟨R, hRR⟩ : ∃ R, loadP L a bs = R := ⟨_, rfl⟩
  rw [hRR]
  have HR := Lib.hid hRR
  clear hRR
  unfold loadP at HR
  have HM := Lib.hid hR
  have HV := Lib.hid hv
  have HG := Lib.hid hg
  have hlt := hR.hold.lt
  have hm_0 : w.cell? ⟨rb, 0, none⟩ = some v := (hR.hold.cell 0 _ rfl).1
  have hmw : rb < w.heap.size := klt hm_0
  obtain ⟨bp, bc, rfl⟩ := hv.form
  obtain ⟨m, hm⟩ : ∃ m, bs.length = m := ⟨_, rfl⟩
  rw [hm] at H3 HR hbl ⊢
  have HN := Lib.hid hm
  have HW := Lib.hid (show (ramB a = true ∨ romB a = true) → IntKind.i64.wrap (a + (m : Int)) = a + m ∧ IntKind.i64.wrap (a + (m : Int) - 1) = a + m - 1 from fun h => by
    have h2 : 0 ≤ a ∧ a < 65536 := by
      unfold ramB romB at h
      simp only [Bool.and_eq_true, decide_eq_true_eq] at h
      omega
    exact ⟨IntWalk.i64_in _ (by omega), IntWalk.i64_in _ (by omega)⟩)
  have HA := Lib.hid (show (ramB a = true ∨ romB a = true) → 0 ≤ a ∧ a < 65536 from fun h => by
    unfold ramB romB at h
    simp only [Bool.and_eq_true, decide_eq_true_eq] at h
    omega)
  obtain ⟨BAD, hZ⟩ : ∃ B, ((!ramB a && !romB a) || (decide ((0 : Int) < (m : Int)) && !oneB a (a + m - 1))) = B := ⟨_, rfl⟩
  rw [hZ] at HR
  have HZ := Lib.hid hZ.symm
  generalize ramB a = R1 at *
  generalize romB a = R2 at *
  generalize oneB a (a + (m : Int) - 1) = O at *
  have hb_0 : w.cell? ⟨rb, 0, none⟩ = some v := hm_0
  have fb_0 : w.frozen? ⟨rb, 0, none⟩ = false := (hR.hold.cell 0 _ rfl).2
  clear hR hm hv hg hZ hm_0
  go_enter Tryz.func38, Tryz.ntmps38
  go_upto_region 1 with fail
  go_cut [30] (fun s30 wx => s30 = .bool BAD ∧ wx.cell? ⟨rb, 0, none⟩ = some (v) ∧ wx.frozen? ⟨rb, 0, none⟩ = false ∧ Below w.heap.size w wx)
  case first =>
    go_wp2_with fail
    ((with_reducible refine (H1.out _).mono ?_); rintro _ u1 ⟨rfl, hb⟩)
    have T : CF u1 rb 0 (v) := by
        refine ⟨?_, ?_⟩ <;> first | (refine kc hb ?_ <;> (go_simp; first | done | rfl)) | (refine kfz hb ?_ ?_ <;> first | (go_size; done) | (go_simp; done))
    have hz := hb.size
    (try simp only [World.size_alloc, World.size_setCell, World.size_drew] at hz)
    have L : rb < u1.heap.size := by omega
    have hB' : Below w.heap.size w u1 := by
        refine kb ?_ hb
        go_grown
    clear hb hz
    obtain ⟨hb_0, fb_0⟩ := T
    have hlb := L; clear L
    obtain ⟨hnb0, hnb1, hkb1, hnb2, hkb2⟩ := ap0 hlb
    have hB := hB'; clear hB'
    have hsz := hB.size
    cases R1
    · go_wp2_with fail
      ((with_reducible refine (H2.out _).mono ?_); rintro _ u2 ⟨rfl, hb⟩)
      have T : CF u2 rb 0 (v) := by
          refine ⟨?_, ?_⟩ <;> first | (refine kc hb ?_ <;> (go_simp; first | done | rfl)) | (refine kfz hb ?_ ?_ <;> first | (go_size; done) | (go_simp; done))
      have hz := hb.size
      (try simp only [World.size_alloc, World.size_setCell, World.size_drew] at hz)
      have L : rb < u2.heap.size := by omega
      have hB' : Below w.heap.size w u2 := by
          refine kb ?_ hb
          go_grown
      clear hb_0 fb_0 hlb hnb0 hnb1 hkb1 hnb2 hkb2 hB hsz
      clear hb hz
      obtain ⟨hb_0, fb_0⟩ := T
      have hlb := L; clear L
      obtain ⟨hnb0, hnb1, hkb1, hnb2, hkb2⟩ := ap0 hlb
      have hB := hB'; clear hB'
      have hsz := hB.size
      cases R2
      · go_wp2_with fail
        go_meet
        exact ⟨by rw [HZ.out]; rfl, ⟨hb_0, fb_0, hB⟩⟩
      · skip
        obtain ⟨w1, w2⟩ := HW.out (by simp)
        by_cases hz : 0 < m
        · have hZ : decide ((0 : Int) < (m : Int)) = true := decide_eq_true (by omega)
          go_wp2_with fail
          ((with_reducible refine (H3.out _).mono ?_); rintro _ u3 ⟨rfl, hb⟩)
          have T : CF u3 rb 0 (v) := by
              refine ⟨?_, ?_⟩ <;> first | (refine kc hb ?_ <;> (go_simp; first | done | rfl)) | (refine kfz hb ?_ ?_ <;> first | (go_size; done) | (go_simp; done))
          have hz := hb.size
          (try simp only [World.size_alloc, World.size_setCell, World.size_drew] at hz)
          have L : rb < u3.heap.size := by omega
          have hB' : Below w.heap.size w u3 := by
              refine kb ?_ hb
              go_grown
          clear hb_0 fb_0 hlb hnb0 hnb1 hkb1 hnb2 hkb2 hB hsz
          clear hb hz
          obtain ⟨hb_0, fb_0⟩ := T
          have hlb := L; clear L
          obtain ⟨hnb0, hnb1, hkb1, hnb2, hkb2⟩ := ap0 hlb
          have hB := hB'; clear hB'
          have hsz := hB.size
          cases O
          · go_wp2_with fail
            go_meet
            exact ⟨by rw [HZ.out, hZ]; rfl, ⟨hb_0, fb_0, hB⟩⟩
          · go_wp2_with fail
            go_meet
            exact ⟨by rw [HZ.out, hZ]; rfl, ⟨hb_0, fb_0, hB⟩⟩
        · have hZ : decide ((0 : Int) < (m : Int)) = false := decide_eq_false (by omega)
          go_wp2_with fail
          go_meet
          exact ⟨by rw [HZ.out, hZ]; rfl, ⟨hb_0, fb_0, hB⟩⟩
    · skip
      obtain ⟨w1, w2⟩ := HW.out (by simp)
      by_cases hz : 0 < m
      · have hZ : decide ((0 : Int) < (m : Int)) = true := decide_eq_true (by omega)
        go_wp2_with fail
        ((with_reducible refine (H3.out _).mono ?_); rintro _ u3 ⟨rfl, hb⟩)
        have T : CF u3 rb 0 (v) := by
            refine ⟨?_, ?_⟩ <;> first | (refine kc hb ?_ <;> (go_simp; first | done | rfl)) | (refine kfz hb ?_ ?_ <;> first | (go_size; done) | (go_simp; done))
        have hz := hb.size
        (try simp only [World.size_alloc, World.size_setCell, World.size_drew] at hz)
        have L : rb < u3.heap.size := by omega
        have hB' : Below w.heap.size w u3 := by
            refine kb ?_ hb
            go_grown
        clear hb_0 fb_0 hlb hnb0 hnb1 hkb1 hnb2 hkb2 hB hsz
        clear hb hz
        obtain ⟨hb_0, fb_0⟩ := T
        have hlb := L; clear L
        obtain ⟨hnb0, hnb1, hkb1, hnb2, hkb2⟩ := ap0 hlb
        have hB := hB'; clear hB'
        have hsz := hB.size
        cases O
        · go_wp2_with fail
          go_meet
          exact ⟨by rw [HZ.out, hZ]; rfl, ⟨hb_0, fb_0, hB⟩⟩
        · go_wp2_with fail
          go_meet
          exact ⟨by rw [HZ.out, hZ]; rfl, ⟨hb_0, fb_0, hB⟩⟩
      · have hZ : decide ((0 : Int) < (m : Int)) = false := decide_eq_false (by omega)
        go_wp2_with fail
        go_meet
        exact ⟨by rw [HZ.out, hZ]; rfl, ⟨hb_0, fb_0, hB⟩⟩
  case rest =>
    obtain ⟨wd, hwd⟩ : ∃ W, W = wc := ⟨_, rfl⟩
    rw [← hwd] at hcut ⊢
    clear hwd
    obtain ⟨rfl, hcut⟩ := hcut
    obtain ⟨hb_0, fb_0, hB⟩ := hcut
    have hsz := hB.size
    have hlb := klt hb_0
    obtain ⟨hnb0, hnb1, hkb1, hnb2, hkb2⟩ := ap0 hlb
    cases BAD
    · have HF := Lib.hid (show R = (0, L ++ putsP a bs) from by rw [← HR.out]; rfl)
      have HWA := Lib.hid (show ∀ k : Nat, k < m → IntKind.i64.wrap (a + (k : Int)) = a + k from fun k hk => by
        have hr : R1 = true ∨ R2 = true := by
          have h := HZ.out
          cases R1
          · cases R2
            · cases h
            · exact .inr rfl
          · exact .inl rfl
        have := HA.out hr
        exact IntWalk.i64_in _ (by omega))
      obtain ⟨i0, hi, hz0, hz1, hz2⟩ := info_parts Tryz.infoPut
      have HKd := Lib.hid ((Hq.refl HM.out.hold).below HM.out.hold hB)
      go_wp2_with fail
      go_loopw [7] (fun s7 wr => ∃ k : Nat, k ≤ m ∧ s7 = .int .i64 k ∧ Hid (∃ v2, Hq rb (rB L v S a0 b0 c0 d0) (rB (L ++ putsP a (bs.take k)) v2 S a0 b0 c0 d0) w wr)) (fun i _ => m - (intOf i).toNat)
      case atStart => exact ⟨0, Nat.zero_le _, rfl, Lib.hid ⟨v, by rw [List.take_zero]; simpa [putsP] using HKd.out⟩⟩
      case round =>
        obtain ⟨k, hk, rfl, HRm⟩ := hrel
        obtain ⟨v2, hRm⟩ := HRm.out
        clear hb_0 fb_0 hB hsz hlb hnb0 hnb1 hkb1 hnb2 hkb2
        by_cases hlt2 : k < m
        · have hd : decide ((k : Int) < (m : Int)) = true := decide_eq_true (by omega)
          have hlk : k < bs.length := by rw [HN.out]; exact hlt2
          obtain ⟨g, o, cap, e1, hcap, hcc⟩ := HV.out.some (by omega)
          obtain ⟨rfl, n1, rfl⟩ := Value.slice.inj e1
          clear e1 n1
          obtain ⟨x, hx⟩ : ∃ x, bs[k]? = some x := ⟨_, List.getElem?_eq_getElem hlk⟩
          have hx0 := hcc k x hx 0 _ rfl
          rw [Nat.mul_one, Nat.add_zero] at hx0
          have hx_0 := hRm.fr.cell hx0 (HG.out (by omega) g rfl)
          have hsnoc : putsP a (bs.take (k + 1)) = putsP a (bs.take k) ++ [⟨a + (k : Int), x, 0⟩] := by
            rw [List.take_add_one, hx, Option.toList_some, putsP_snoc, List.length_take, Nat.min_eq_left (by omega)]
          have HS := Lib.hid hsnoc
          have hw1 := HWA.out k hlt2
          have hw2 : IntKind.i64.wrap ((k : Int) + 1) = (k : Int) + 1 := IntWalk.i64_in _ (by omega)
          have hgw := klt hx_0
          obtain ⟨p2, c2, rfl⟩ := own_form (show wr.ownsRow 0 103 3 v2 (L ++ putsP a (bs.take k)).length ((L ++ putsP a (bs.take k)).flatMap Pt.cells) from (hRm.hold.own 0 _ rfl).1)
          have hll : (L ++ putsP a (bs.take k)).length = L.length + k := by rw [List.length_append, putsP_len, List.length_take, Nat.min_eq_left (by omega)]
          obtain ⟨n2, hn2⟩ : ∃ n, (L ++ putsP a (bs.take k)).length = n := ⟨_, rfl⟩
          have HN2 := Lib.hid hn2
          have HMr := Lib.hid (show Hq rb (rB L v S a0 b0 c0 d0) (rB (L ++ putsP a (bs.take k)) (.slice p2 n2 c2) S a0 b0 c0 d0) w wr from by rw [← hn2]; exact hRm)
          have hbm_0 : wr.cell? ⟨rb, 0, none⟩ = some (.slice p2 (L ++ putsP a (bs.take k)).length c2) := (hRm.hold.cell 0 _ rfl).1
          have fbm_0 : wr.frozen? ⟨rb, 0, none⟩ = false := (hRm.hold.cell 0 _ rfl).2
          have hmwr : rb < wr.heap.size := klt hbm_0
          have HDo := Lib.hid (HMr.out.hold.own 0 _ rfl).2
          have HO := Lib.hid (show wr.ownsRow 0 103 3 (.slice p2 n2 c2) n2 ((L ++ putsP a (bs.take k)).flatMap Pt.cells) from by have := (hRm.hold.own 0 _ rfl).1; dsimp only at this; rw [hn2] at this; exact this)
          rw [hn2] at hbm_0
          have hn2b : n2 ≤ 200000 := by omega
          have hin : (0 : Int) ≤ (k : Int) ∧ (k : Int) < (m : Int) := by omega
          have hbr : Below wr.heap.size wr wr := Below.refl _ _
          clear hRm hcc hx hx0 hsnoc hll hn2 HRm
          go_wp2_with fail
          go_region_law (refine step_append_f rfl (.tmp 41) (.tmp 51) 36 rfl 103 i0 _ 3 16 Tryz.underlying36 hi hz0 hz1 hz2 rfl (by decide) (.slice p2 n2 c2) n2 ((L ++ putsP a (bs.take k)).flatMap Pt.cells) (by simp [Act.eval, Act.put]) (Below.ownRow (by go_grown) HO.out) ⟨_, 0, none⟩ 1 1 ([(⟨a + (k : Int), x, 0⟩ : Pt)].flatMap Pt.cells) (by simp [Act.eval, Act.put] <;> rfl) rfl (pt_cells_at 103 ⟨a + (k : Int), x, 0⟩) (one_cells8 pt_one _) (by unfold maxLen; omega) (by omega) ?_; intro v' w' hown' hg; obtain ⟨p', cp', rfl⟩ := own_form hown'; have tc : w'.cell? ⟨rb, 0, none⟩ = some (.slice p2 n2 c2) := hg.cell (by simpa [rB] using HDo.out) (by go_simp); have tf : w'.frozen? ⟨rb, 0, none⟩ = false := hg.frozen (by simpa [rB] using HDo.out) (by simp; omega) (by go_simp); have HGG := Lib.hid (And.intro (hg.base (N := wr.heap.size) (w := wr) (by go_grown)) (And.intro hown' hg)); clear hown' hg)
          all_goals
            have HPP := Lib.hid (hold_put (p := ⟨a + (k : Int), x, 0⟩) HMr.out.hold HGG.out.1 (by rw [HN2.out]; exact HGG.out.2.1) HGG.out.2.2)
            go_wp2
            go_roundw
            case rel => exact ⟨k + 1, by omega, by go_num, Lib.hid ⟨_, by rw [HS.out, ← List.append_assoc]; exact Hq.trans HM.out.hold HMr.out HPP.out⟩⟩
            case measure => simp [intOf] <;> omega
        · have hkm : k = m := by omega
          have hd : decide ((k : Int) < (m : Int)) = false := decide_eq_false (by omega)
          have HFIN := Lib.hid (show Hq rb (rB L v S a0 b0 c0 d0) (rB (L ++ putsP a bs) v2 S a0 b0 c0 d0) w wr from by have := hRm; rw [hkm, ← HN.out, List.take_length] at this; exact this)
          go_wp2
          go_ret
          rw [HF.out]
          exact ⟨rfl, v2, HFIN.out, HM.out.hqm HFIN.out⟩
    · have HF := Lib.hid (show R = (10, L) from by rw [← HR.out]; rfl)
      go_wp2
      go_ret
      exact memEndB_same HF.out HM.out hB
set_option maxRecDepth 100000 in
set_option maxHeartbeats 4000000 in
theorem labelm_c (L : List Pt) (fr to' t : Int) (hl : oneB fr to' = true → L.length + (to' - fr + 1).toNat ≤ 100000) (rb : Nat) (v : Value) (S : Po) (x0 y0 a0 b0 c0 d0 : Value) (w : World) (hR : Db rb L v S x0 y0 a0 b0 c0 d0 w) :
    Calls Tryz.prog 39 #[.pointer (some ⟨rb, 0, none⟩), .int .i64 fr, .int .i64 to', .int .u8 t] w (MemEndB rb L v S x0 y0 a0 b0 c0 d0 (labelP L fr to' t).1 (labelP L fr to' t).2 w) := by
  have H3 := Lib.hid (fun W => oner_c fr to' W)
  have HLB := Lib.hid hl
  clear hl
  obtain ⟨R, hRR⟩ : ∃ R, labelP L fr to' t = R := ⟨_, rfl⟩
  rw [hRR]
  have HR := Lib.hid hRR
  clear hRR
  unfold labelP at HR
  have HM := Lib.hid hR
  have hlt := hR.hold.lt
  have hb_0 : w.cell? ⟨rb, 0, none⟩ = some v := (hR.hold.cell 0 _ rfl).1
  have fb_0 : w.frozen? ⟨rb, 0, none⟩ = false := (hR.hold.cell 0 _ rfl).2
  have hmw : rb < w.heap.size := klt hb_0
  have HA := Lib.hid (show oneB fr to' = true → 0 ≤ fr ∧ to' < 65536 from fun h => by
    unfold oneB ramB romB at h
    simp only [Bool.or_eq_true, Bool.and_eq_true, decide_eq_true_eq] at h
    omega)
  generalize oneB fr to' = O at *
  clear hR
  by_cases h1 : to' < fr
  · have HF := Lib.hid (show R = (10, L) from by rw [← HR.out, decide_eq_true h1]; rfl)
    go_enter Tryz.func39, Tryz.ntmps39
    go_wp2
    go_ret
    exact memEndB_same HF.out HM.out (by go_grown)
  · go_enter Tryz.func39, Tryz.ntmps39
    go_wp2_with fail
    ((with_reducible refine (H3.out _).mono ?_); rintro _ u1 ⟨rfl, hb⟩)
    have T : CF u1 rb 0 (v) := by
        refine ⟨?_, ?_⟩ <;> first | (refine kc hb ?_ <;> (go_simp; first | done | rfl)) | (refine kfz hb ?_ ?_ <;> first | (go_size; done) | (go_simp; done))
    have hz := hb.size
    (try simp only [World.size_alloc, World.size_setCell, World.size_drew] at hz)
    have L : rb < u1.heap.size := by omega
    have hB' : Below w.heap.size w u1 := by
        refine kb ?_ hb
        go_grown
    clear hb hz
    obtain ⟨hb_0, fb_0⟩ := T
    have hlb := L; clear L
    obtain ⟨hnb0, hnb1, hkb1, hnb2, hkb2⟩ := ap0 hlb
    have hB := hB'; clear hB'
    have hsz := hB.size
    cases O
    · have HF := Lib.hid (show R = (10, L) from by rw [← HR.out, decide_eq_false (show ¬ to' < fr by omega)]; rfl)
      go_wp2
      go_ret
      exact memEndB_same HF.out HM.out hB
    · have HF := Lib.hid (show R = (0, labsP (to' - fr + 1).toNat L fr t) from by rw [← HR.out, decide_eq_false (show ¬ to' < fr by omega)]; rfl)
      have hf := HA.out rfl
      have hl := HLB.out rfl
      obtain ⟨N, hN⟩ : ∃ N, (to' - fr + 1).toNat = N := ⟨_, rfl⟩
      have hNi : to' = fr + (N : Int) - 1 := by omega
      rw [hN] at HF hl
      obtain ⟨i0, hi, hz0, hz1, hz2⟩ := info_parts Tryz.infoPut
      have HKd := Lib.hid ((Hq.refl HM.out.hold).below HM.out.hold hB)
      subst hNi
      have HN := Lib.hid (And.intro hf h1)
      clear hN hf h1 HA HR
      go_wp2_with fail
      go_loopw [9] (fun s9 wr => ∃ (k : Nat) (L2 : List Pt), k ≤ N ∧ s9 = .int .i64 (fr + (k : Int)) ∧ Hid (labsP (N - k) L2 (fr + (k : Int)) t = labsP N L fr t) ∧ Hid (L2.length = L.length + k) ∧ Hid (∃ v2, Hq rb (rB L v S a0 b0 c0 d0) (rB L2 v2 S a0 b0 c0 d0) w wr)) (fun i _ => (fr + (N : Int) - intOf i).toNat)
      case atStart => exact ⟨0, L, Nat.zero_le _, by simp, Lib.hid (by simp), Lib.hid rfl, Lib.hid ⟨v, HKd.out⟩⟩
      case round =>
        obtain ⟨k, L2, hk, rfl, HL, HLn, HRm⟩ := hrel
        obtain ⟨v2, hRm⟩ := HRm.out
        clear hb_0 fb_0 hB hsz hlb hnb0 hnb1 hkb1 hnb2 hkb2
        have hN1 := HN.out
        by_cases hlt2 : k < N
        · have hd : decide (fr + (k : Int) ≤ fr + (N : Int) - 1) = true := decide_eq_true (by omega)
          have hstep : labsP (N - (k + 1)) (L2 ++ [⟨fr + (k : Int), (atP L2 (fr + (k : Int))).1, t⟩]) (fr + ((k + 1 : Nat) : Int)) t = labsP N L fr t := by
            have h := HL.out
            rw [show N - k = (N - (k + 1)) + 1 by omega, labsP] at h
            rw [← h]
            congr 1
            omega
          have HS := Lib.hid hstep
          have hw1 : IntKind.i64.wrap (fr + (k : Int) + 1) = fr + (k : Int) + 1 := IntWalk.i64_in _ (by omega)
          obtain ⟨p2, c2, rfl⟩ := own_form (show wr.ownsRow 0 103 3 v2 (L2).length ((L2).flatMap Pt.cells) from (hRm.hold.own 0 _ rfl).1)
          have HAt := Lib.hid (fun W (hb : Below wr.heap.size wr W) => atn_c L2 (by have := HLn.out; omega) (fr + (k : Int)) rb 0 _ W (kc hb (show wr.cell? ⟨rb, 0, none⟩ = some (.slice p2 L2.length c2) from (hRm.hold.cell 0 _ rfl).1)) (own_below (show wr.ownsRow 0 103 3 (.slice p2 L2.length c2) L2.length (L2.flatMap Pt.cells) from (hRm.hold.own 0 _ rfl).1) hb))
          obtain ⟨⟨av, at_⟩, hat⟩ : ∃ B, atP L2 (fr + (k : Int)) = B := ⟨_, rfl⟩
          rw [hat] at HAt HS
          dsimp only at HAt HS
          obtain ⟨n2, hn2⟩ : ∃ n, L2.length = n := ⟨_, rfl⟩
          have hn2b : n2 ≤ 200000 := by have := HLn.out; omega
          have HN2 := Lib.hid hn2
          have HMr := Lib.hid (show Hq rb (rB L v S a0 b0 c0 d0) (rB (L2) (.slice p2 n2 c2) S a0 b0 c0 d0) w wr from by rw [← hn2]; exact hRm)
          have hbm_0 : wr.cell? ⟨rb, 0, none⟩ = some (.slice p2 n2 c2) := (HMr.out.hold.cell 0 _ rfl).1
          have fbm_0 : wr.frozen? ⟨rb, 0, none⟩ = false := (hRm.hold.cell 0 _ rfl).2
          have hmwr : rb < wr.heap.size := klt hbm_0
          have HDo := Lib.hid (HMr.out.hold.own 0 _ rfl).2
          have HO := Lib.hid (show wr.ownsRow 0 103 3 (.slice p2 n2 c2) n2 ((L2).flatMap Pt.cells) from by have := (hRm.hold.own 0 _ rfl).1; dsimp only at this; rw [hn2] at this; exact this)
          have hbr : Below wr.heap.size wr wr := Below.refl _ _
          have hfd := fun W => field_v av at_ W
          clear hRm hstep hat hn2 HRm hN1
          go_wp2_with fail
          go_region_law (first
            | (refine step_append_f rfl (.tmp 29) (.tmp 38) 36 rfl 103 i0 _ 3 16 Tryz.underlying36 hi hz0 hz1 hz2 rfl (by decide) (.slice p2 n2 c2) n2 (L2.flatMap Pt.cells) (by simp [Act.eval, Act.put]) (Below.ownRow (by go_grown) HO.out) ⟨_, 0, none⟩ 1 1 ([(⟨fr + (k : Int), av, t⟩ : Pt)].flatMap Pt.cells) (by simp [Act.eval, Act.put] <;> rfl) rfl (pt_cells_at 103 ⟨fr + (k : Int), av, t⟩) (one_cells8 pt_one _) (by unfold maxLen; omega) (by omega) ?_; intro v' w' hown' hg; obtain ⟨p', cp', rfl⟩ := own_form hown'; have tc : w'.cell? ⟨rb, 0, none⟩ = some (.slice p2 n2 c2) := hg.cell (by simpa [rB] using HDo.out) (by go_simp); have tf : w'.frozen? ⟨rb, 0, none⟩ = false := hg.frozen (by simpa [rB] using HDo.out) (by simp; omega) (by go_simp); have HGG := Lib.hid (And.intro (hg.base (N := wr.heap.size) (w := wr) (by go_grown)) (And.intro hown' hg)); clear hown' hg)
            | (refine step_call rfl (f := 48) (args := #[.pointer (some ⟨rb, 0, none⟩), .int .i64 (fr + (k : Int))]) (v := .agg #[.int .u8 av, .int .u8 at_]) (by first | rfl | (go_simp; done)) (HAt.out _ (by go_grown)) ?_; intro y hby; have hBy : Below wr.heap.size wr y := kb (by go_grown) hby; have hym_0 : y.cell? ⟨rb, 0, none⟩ = some (.slice p2 n2 c2) := kc hBy hbm_0; have fym_0 : y.frozen? ⟨rb, 0, none⟩ = false := kfz hBy hmwr fbm_0; have hmy : rb < y.heap.size := klt hym_0; have hyz : wr.heap.size ≤ y.heap.size := hBy.size; clear hby))
          all_goals
            have HPP := Lib.hid (hold_put (p := ⟨fr + (k : Int), av, t⟩) HMr.out.hold HGG.out.1 (by rw [HN2.out]; exact HGG.out.2.1) HGG.out.2.2)
            go_wp2
            go_roundw
            case rel => exact ⟨k + 1, _, by omega, by go_num, HS, Lib.hid (by rw [List.length_append, HLn.out]; rfl), Lib.hid ⟨_, Hq.trans HM.out.hold HMr.out HPP.out⟩⟩
            case measure => simp [intOf] <;> omega
        · have hkm : k = N := by omega
          have hd : decide (fr + (k : Int) ≤ fr + (N : Int) - 1) = false := decide_eq_false (by omega)
          have HFIN := Lib.hid (show Hq rb (rB L v S a0 b0 c0 d0) (rB (labsP N L fr t) v2 S a0 b0 c0 d0) w wr from by
            have h := HL.out
            rw [show N - k = 0 by omega, labsP] at h
            rw [← h]; exact hRm)
          go_wp2
          go_ret
          rw [HF.out]
          exact ⟨rfl, v2, HFIN.out, HM.out.hqm HFIN.out⟩
end Go.Proofs.YtcnejgilmciljaaGreatDoor
