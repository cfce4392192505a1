/-
  Layer 8's document: Load.
  Layer 8's document: Label.
  Layer 8's laws: calls in memory; whether they are not too many.
  Layer 8, mathematics: bytes by their addresses, as a function, beside the document's row.
-/
import Derived.Test.YtcnejgilmciljaaGreatDoorObj11
set_option linter.unusedSimpArgs false
set_option linter.unusedVariables false
namespace Go.Proofs.YtcnejgilmciljaaGreatDoor
open Go.RowKit Go.PlainAid

/-- Bytes, not secret, from an address on. -/
def putsP (a : Int) : List Int → List Pt
  | [] => []
  | b :: r => ⟨a, b, 0⟩ :: putsP (a + 1) r
theorem putsP_snoc (b : Int) : ∀ (l : List Int) (a : Int), putsP a (l ++ [b]) = putsP a l ++ [⟨a + l.length, b, 0⟩]
  | [], a => by simp [putsP]
  | x :: r, a => by
    rw [List.cons_append, putsP, putsP, putsP_snoc b r (a + 1), List.cons_append]
    simp only [List.length_cons]
    rw [show a + 1 + (r.length : Int) = a + ((r.length + 1 : Nat) : Int) by omega]
theorem putsP_len : ∀ (l : List Int) (a : Int), (putsP a l).length = l.length
  | [], a => rfl
  | x :: r, a => by rw [putsP, List.length_cons, List.length_cons, putsP_len r]
def byE (x : Int) : List Value := [.int .u8 x]
abbrev HoldsB := HoldsW byE 1
def loadP (L : List Pt) (a : Int) (bs : List Int) : Int × List Pt := if ((!ramB a && !romB a) || (decide ((0 : Int) < (bs.length : Int)) && !oneB a (a + bs.length - 1))) = true then (10, L) else (0, L ++ putsP a bs)
set_option maxRecDepth 100000 in
set_option maxHeartbeats 2000000 in
theorem loadr_c (L : List Pt) (hl : L.length ≤ 100000) (a : Int) (bs : List Int) (hbl : bs.length ≤ 100000) (mb S0 : Nat) (v bv : Value) (w : World) (hR : Rm mb S0 w L v) (hv : HoldsB w bv bs) (hg : 0 < bs.length → ∀ g, bv.ownBlock = some g → g < S0 ∧ g ≠ mb) :
    Calls Tryz.prog 38 #[.pointer (some ⟨mb, 0, none⟩), .int .i64 a, bv] w (PutEnd mb S0 w (loadP L a bs).1 (loadP L a bs).2) := by
  have H1 := Lib.hid (fun W => ramr_c a W)
  have H2 := Lib.hid (fun W => romr_c a W)
  have H3 := Lib.hid (fun W => oner_c a (a + bs.length - 1) W)
  obtain ⟨R, hRR⟩ : ∃ R, loadP L a bs = R := ⟨_, rfl⟩
  rw [hRR]
  have HR := Lib.hid hRR
  clear hRR
  unfold loadP at HR
  have HM := Lib.hid hR
  have HV := Lib.hid hv
  have HG := Lib.hid hg
  have hlt := hR.lt
  have hsz0 := hR.sz
  have hm_0 := hR.c0
  have hmw : mb < w.heap.size := klt hm_0
  obtain ⟨bp, bc, rfl⟩ := hv.form
  obtain ⟨m, hm⟩ : ∃ m, bs.length = m := ⟨_, rfl⟩
  rw [hm] at H3 HR hbl ⊢
  have HN := Lib.hid hm
  have HW := Lib.hid (show (ramB a = true ∨ romB a = true) → IntKind.i64.wrap (a + (m : Int)) = a + m ∧ IntKind.i64.wrap (a + (m : Int) - 1) = a + m - 1 from fun h => by
    have h2 : 0 ≤ a ∧ a < 65536 := by
      unfold ramB romB at h
      simp only [Bool.and_eq_true, decide_eq_true_eq] at h
      omega
    exact ⟨IntWalk.i64_in _ (by omega), IntWalk.i64_in _ (by omega)⟩)
  have HA := Lib.hid (show (ramB a = true ∨ romB a = true) → 0 ≤ a ∧ a < 65536 from fun h => by
    unfold ramB romB at h
    simp only [Bool.and_eq_true, decide_eq_true_eq] at h
    omega)
  obtain ⟨BAD, hZ⟩ : ∃ B, ((!ramB a && !romB a) || (decide ((0 : Int) < (m : Int)) && !oneB a (a + m - 1))) = B := ⟨_, rfl⟩
  rw [hZ] at HR
  have HZ := Lib.hid hZ.symm
  generalize ramB a = R1 at *
  generalize romB a = R2 at *
  generalize oneB a (a + (m : Int) - 1) = O at *
  have hb_0 : w.cell? ⟨mb, 0, none⟩ = some v := hm_0
  have fb_0 := hR.fr
  clear hR hm hv hg hZ hm_0
  go_enter Tryz.func38, Tryz.ntmps38
  go_upto_region 1 with fail
  go_cut [30] (fun s30 wx => s30 = .bool BAD ∧ wx.cell? ⟨mb, 0, none⟩ = some (v) ∧ wx.frozen? ⟨mb, 0, none⟩ = false ∧ Below w.heap.size w wx)
  case first =>
    go_wp2_with fail
    ((with_reducible refine (H1.out _).mono ?_); rintro _ u1 ⟨rfl, hb⟩)
    have T : CF u1 mb 0 (v) := by
        refine ⟨?_, ?_⟩ <;> first | (refine kc hb ?_ <;> (go_simp; first | done | rfl)) | (refine kfz hb ?_ ?_ <;> first | (go_size; done) | (go_simp; done))
    have hz := hb.size
    (try simp only [World.size_alloc, World.size_setCell, World.size_drew] at hz)
    have L : mb < u1.heap.size := by omega
    have hB' : Below w.heap.size w u1 := by
        refine kb ?_ hb
        go_grown
    clear hb hz
    obtain ⟨hb_0, fb_0⟩ := T
    have hlb := L; clear L
    obtain ⟨hnb0, hnb1, hkb1, hnb2, hkb2⟩ := ap0 hlb
    have hB := hB'; clear hB'
    have hsz := hB.size
    cases R1
    · go_wp2_with fail
      ((with_reducible refine (H2.out _).mono ?_); rintro _ u2 ⟨rfl, hb⟩)
      have T : CF u2 mb 0 (v) := by
          refine ⟨?_, ?_⟩ <;> first | (refine kc hb ?_ <;> (go_simp; first | done | rfl)) | (refine kfz hb ?_ ?_ <;> first | (go_size; done) | (go_simp; done))
      have hz := hb.size
      (try simp only [World.size_alloc, World.size_setCell, World.size_drew] at hz)
      have L : mb < u2.heap.size := by omega
      have hB' : Below w.heap.size w u2 := by
          refine kb ?_ hb
          go_grown
      clear hb_0 fb_0 hlb hnb0 hnb1 hkb1 hnb2 hkb2 hB hsz
      clear hb hz
      obtain ⟨hb_0, fb_0⟩ := T
      have hlb := L; clear L
      obtain ⟨hnb0, hnb1, hkb1, hnb2, hkb2⟩ := ap0 hlb
      have hB := hB'; clear hB'
      have hsz := hB.size
      cases R2
      · go_wp2_with fail
        go_meet
        exact ⟨by rw [HZ.out]; rfl, ⟨hb_0, fb_0, hB⟩⟩
      · skip
        obtain ⟨w1, w2⟩ := HW.out (by simp)
        by_cases hz : 0 < m
        · have hZ : decide ((0 : Int) < (m : Int)) = true := decide_eq_true (by omega)
          go_wp2_with fail
          ((with_reducible refine (H3.out _).mono ?_); rintro _ u3 ⟨rfl, hb⟩)
          have T : CF u3 mb 0 (v) := by
              refine ⟨?_, ?_⟩ <;> first | (refine kc hb ?_ <;> (go_simp; first | done | rfl)) | (refine kfz hb ?_ ?_ <;> first | (go_size; done) | (go_simp; done))
          have hz := hb.size
          (try simp only [World.size_alloc, World.size_setCell, World.size_drew] at hz)
          have L : mb < u3.heap.size := by omega
          have hB' : Below w.heap.size w u3 := by
              refine kb ?_ hb
              go_grown
          clear hb_0 fb_0 hlb hnb0 hnb1 hkb1 hnb2 hkb2 hB hsz
          clear hb hz
          obtain ⟨hb_0, fb_0⟩ := T
          have hlb := L; clear L
          obtain ⟨hnb0, hnb1, hkb1, hnb2, hkb2⟩ := ap0 hlb
          have hB := hB'; clear hB'
          have hsz := hB.size
          cases O
          · go_wp2_with fail
            go_meet
            exact ⟨by rw [HZ.out, hZ]; rfl, ⟨hb_0, fb_0, hB⟩⟩
          · go_wp2_with fail
            go_meet
            exact ⟨by rw [HZ.out, hZ]; rfl, ⟨hb_0, fb_0, hB⟩⟩
        · have hZ : decide ((0 : Int) < (m : Int)) = false := decide_eq_false (by omega)
          go_wp2_with fail
          go_meet
          exact ⟨by rw [HZ.out, hZ]; rfl, ⟨hb_0, fb_0, hB⟩⟩
    · skip
      obtain ⟨w1, w2⟩ := HW.out (by simp)
      by_cases hz : 0 < m
      · have hZ : decide ((0 : Int) < (m : Int)) = true := decide_eq_true (by omega)
        go_wp2_with fail
        ((with_reducible refine (H3.out _).mono ?_); rintro _ u3 ⟨rfl, hb⟩)
        have T : CF u3 mb 0 (v) := by
            refine ⟨?_, ?_⟩ <;> first | (refine kc hb ?_ <;> (go_simp; first | done | rfl)) | (refine kfz hb ?_ ?_ <;> first | (go_size; done) | (go_simp; done))
        have hz := hb.size
        (try simp only [World.size_alloc, World.size_setCell, World.size_drew] at hz)
        have L : mb < u3.heap.size := by omega
        have hB' : Below w.heap.size w u3 := by
            refine kb ?_ hb
            go_grown
        clear hb_0 fb_0 hlb hnb0 hnb1 hkb1 hnb2 hkb2 hB hsz
        clear hb hz
        obtain ⟨hb_0, fb_0⟩ := T
        have hlb := L; clear L
        obtain ⟨hnb0, hnb1, hkb1, hnb2, hkb2⟩ := ap0 hlb
        have hB := hB'; clear hB'
        have hsz := hB.size
        cases O
        · go_wp2_with fail
          go_meet
          exact ⟨by rw [HZ.out, hZ]; rfl, ⟨hb_0, fb_0, hB⟩⟩
        · go_wp2_with fail
          go_meet
          exact ⟨by rw [HZ.out, hZ]; rfl, ⟨hb_0, fb_0, hB⟩⟩
      · have hZ : decide ((0 : Int) < (m : Int)) = false := decide_eq_false (by omega)
        go_wp2_with fail
        go_meet
        exact ⟨by rw [HZ.out, hZ]; rfl, ⟨hb_0, fb_0, hB⟩⟩
  case rest =>
    obtain ⟨wd, hwd⟩ : ∃ W, W = wc := ⟨_, rfl⟩
    rw [← hwd] at hcut ⊢
    clear hwd
    obtain ⟨rfl, hcut⟩ := hcut
    obtain ⟨hb_0, fb_0, hB⟩ := hcut
    have hsz := hB.size
    have hlb := klt hb_0
    obtain ⟨hnb0, hnb1, hkb1, hnb2, hkb2⟩ := ap0 hlb
    cases BAD
    · have HF := Lib.hid (show R = (0, L ++ putsP a bs) from by rw [← HR.out]; rfl)
      have HWA := Lib.hid (show ∀ k : Nat, k < m → IntKind.i64.wrap (a + (k : Int)) = a + k from fun k hk => by
        have hr : R1 = true ∨ R2 = true := by
          have h := HZ.out
          cases R1
          · cases R2
            · cases h
            · exact .inr rfl
          · exact .inl rfl
        have := HA.out hr
        exact IntWalk.i64_in _ (by omega))
      obtain ⟨i0, hi, hz0, hz1, hz2⟩ := info_parts Tryz.infoPut
      have HMd := Lib.hid (HM.out.on hB)
      have HKd := Lib.hid (Kp.of_below hB hlt hsz0)
      clear HM
      go_wp2_with fail
      go_loopw [7] (fun s7 wr => ∃ k : Nat, k ≤ m ∧ s7 = .int .i64 k ∧ Hid (∃ v, Rm mb S0 wr (L ++ putsP a (bs.take k)) v) ∧ Hid (Kp mb S0 w wr)) (fun i _ => m - (intOf i).toNat)
      case atStart => exact ⟨0, Nat.zero_le _, rfl, Lib.hid ⟨v, by rw [List.take_zero]; simpa [putsP] using HMd.out⟩, HKd⟩
      case round =>
        obtain ⟨k, hk, rfl, HRm, HK⟩ := hrel
        obtain ⟨v2, hRm⟩ := HRm.out
        clear hb_0 fb_0 hB hsz hlb hnb0 hnb1 hkb1 hnb2 hkb2
        by_cases hlt2 : k < m
        · have hd : decide ((k : Int) < (m : Int)) = true := decide_eq_true (by omega)
          have hlk : k < bs.length := by rw [HN.out]; exact hlt2
          obtain ⟨g, o, cap, e1, hcap, hcc⟩ := HV.out.some (by omega)
          obtain ⟨rfl, n1, rfl⟩ := Value.slice.inj e1
          clear e1 n1
          obtain ⟨hgs, hgm⟩ := HG.out (by omega) g rfl
          obtain ⟨x, hx⟩ : ∃ x, bs[k]? = some x := ⟨_, List.getElem?_eq_getElem hlk⟩
          have hx0 := hcc k x hx 0 _ rfl
          rw [Nat.mul_one, Nat.add_zero] at hx0
          have hx_0 := HK.out.cell hgs hgm hx0
          have hsnoc : putsP a (bs.take (k + 1)) = putsP a (bs.take k) ++ [⟨a + (k : Int), x, 0⟩] := by
            rw [List.take_add_one, hx, Option.toList_some, putsP_snoc, List.length_take, Nat.min_eq_left (by omega)]
          have HS := Lib.hid hsnoc
          have hw1 := HWA.out k hlt2
          have hw2 : IntKind.i64.wrap ((k : Int) + 1) = (k : Int) + 1 := IntWalk.i64_in _ (by omega)
          have hgw := klt hx_0
          obtain ⟨p2, c2, rfl⟩ := own_form hRm.ow
          have hll : (L ++ putsP a (bs.take k)).length = L.length + k := by rw [List.length_append, putsP_len, List.length_take, Nat.min_eq_left (by omega)]
          obtain ⟨n2, hn2⟩ : ∃ n, (L ++ putsP a (bs.take k)).length = n := ⟨_, rfl⟩
          have HN2 := Lib.hid hn2
          have HMr := Lib.hid (show Rm mb S0 wr (L ++ putsP a (bs.take k)) (.slice p2 n2 c2) from by rw [← hn2]; exact hRm)
          have hbm_0 := hRm.c0
          have fbm_0 := hRm.fr
          have hmwr : mb < wr.heap.size := klt hbm_0
          have hswr := hRm.sz
          have HO := Lib.hid (show wr.ownsRow S0 103 3 (.slice p2 n2 c2) n2 _ from by have := hRm.ow; rw [hn2] at this; exact this)
          rw [hn2] at hbm_0
          have hn2b : n2 ≤ 200000 := by omega
          have hin : (0 : Int) ≤ (k : Int) ∧ (k : Int) < (m : Int) := by omega
          have hbr : Below wr.heap.size wr wr := Below.refl _ _
          clear hRm hcc hx hx0 hsnoc hll hn2 HRm
          go_wp2_with fail
          go_region_law (refine step_append8 rfl (.tmp 41) (.tmp 51) 36 rfl S0 103 i0 _ 3 16 Tryz.underlying36 hi hz0 hz1 hz2 rfl (by decide) _ n2 _ (by simp [Act.eval, Act.put]) (own_below HO.out (by go_grown)) ⟨wr.heap.size, 0, none⟩ 1 1 ([(⟨a + (k : Int), x, 0⟩ : Pt)].flatMap Pt.cells) (by simp [Act.eval, Act.put]) rfl (pt_cells_at 103 ⟨a + (k : Int), x, 0⟩) (one_cells8 pt_one _) (by unfold maxLen; omega) (by omega) (by simp; omega) ?_; intro v' w' hown' hg _ hat; obtain ⟨p', cp', rfl⟩ := own_form hown'; have tc : w'.cell? ⟨mb, 0, none⟩ = some (.slice p2 n2 c2) := grown_cell8 (own_below HO.out (by go_grown)) hg hlt (by go_simp); have tf : w'.frozen? ⟨mb, 0, none⟩ = false := grown_frozen8 (own_below HO.out (by go_grown)) hg hlt (by simp; omega) (by go_simp); have HGG := Lib.hid (And.intro hown' (And.intro hg hat)); clear hown' hg hat)
          all_goals
            have HPP := Lib.hid (Rm.app HMr.out (by go_grown) ⟨a + (k : Int), x, 0⟩ HGG.out.2.1 (by rw [HN2.out]; exact HGG.out.1))
            go_wp2
            go_roundw
            case rel => exact ⟨k + 1, by omega, by go_num, Lib.hid ⟨_, by rw [HS.out, ← List.append_assoc]; exact HPP.out.1⟩, Lib.hid (HK.out.trans HPP.out.2)⟩
            case measure => simp [intOf] <;> omega
        · have hkm : k = m := by omega
          have hd : decide ((k : Int) < (m : Int)) = false := decide_eq_false (by omega)
          have HFIN := Lib.hid (show Rm mb S0 wr (L ++ putsP a bs) v2 from by have := hRm; rw [hkm, ← HN.out, List.take_length] at this; exact this)
          go_wp2
          go_ret
          rw [HF.out]
          exact ⟨rfl, HK.out, v2, HFIN.out⟩
    · have HF := Lib.hid (show R = (10, L) from by rw [← HR.out]; rfl)
      go_wp2
      go_ret
      exact putEnd_same HF.out HM.out hB
end Go.Proofs.YtcnejgilmciljaaGreatDoor
set_option linter.unusedSimpArgs false
set_option linter.unusedVariables false
namespace Go.Proofs.YtcnejgilmciljaaGreatDoor
open Go.RowKit Go.PlainAid

/-- A call of a known value, as a step of a region that draws. -/
theorem step_call {P : Program} {ops : Array Oper} {o : Oper} {a : Act} {w : World} {K : Act → World → Prop} {Q : Exit → Act → World → Prop} {E : Prop} (hgd : o.guard = none) {f : FuncId} {args : Array Value} {v : Value}
    (hx : (execOp a.eval o).run P w = .ok (.enter f args) w) (hc : Calls P f args w fun e w' => e = .returned v ∧ Below w.heap.size w w') (hK : ∀ w', Below w.heap.size w w' → K (a.put o.dst v) w') :
    if Region.wanted o (yielded ops a.tmps) = true then Oper.wp P o a w K Q else E := by
  have hw : Region.wanted o (yielded ops a.tmps) = true := by simp [Region.wanted, hgd]
  rw [if_pos hw]
  unfold Oper.wp
  rw [hx]
  exact hc.mono fun e w'' he => by obtain ⟨rfl, hb⟩ := he; exact hK w'' hb
theorem field_v (x y : Int) (W : World) : (Instr.field 49 (.agg #[.int .u8 x, .int .u8 y]) 0).run Tryz.prog W = .ok (.int .u8 x) W := by kernel_rfl
/-- As many labels from an address on. -/
def labsP : Nat → List Pt → Int → Int → List Pt
  | 0, L, _, _ => L
  | n + 1, L, a, t => labsP n (L ++ [⟨a, (atP L a).1, t⟩]) (a + 1) t
def labelP (L : List Pt) (fr to' t : Int) : Int × List Pt := if (decide (to' < fr) || !oneB fr to') = true then (10, L) else (0, labsP (to' - fr + 1).toNat L fr t)
set_option maxRecDepth 100000 in
set_option maxHeartbeats 4000000 in
theorem labelr_c (L : List Pt) (fr to' t : Int) (hl : oneB fr to' = true → L.length + (to' - fr + 1).toNat ≤ 100000) (mb S0 : Nat) (v : Value) (w : World) (hR : Rm mb S0 w L v) :
    Calls Tryz.prog 39 #[.pointer (some ⟨mb, 0, none⟩), .int .i64 fr, .int .i64 to', .int .u8 t] w (PutEnd mb S0 w (labelP L fr to' t).1 (labelP L fr to' t).2) := by
  have H3 := Lib.hid (fun W => oner_c fr to' W)
  have HLB := Lib.hid hl
  clear hl
  obtain ⟨R, hRR⟩ : ∃ R, labelP L fr to' t = R := ⟨_, rfl⟩
  rw [hRR]
  have HR := Lib.hid hRR
  clear hRR
  unfold labelP at HR
  have HM := Lib.hid hR
  have hlt := hR.lt
  have hsz0 := hR.sz
  have hb_0 : w.cell? ⟨mb, 0, none⟩ = some v := hR.c0
  have fb_0 := hR.fr
  have hmw : mb < w.heap.size := klt hb_0
  have HA := Lib.hid (show oneB fr to' = true → 0 ≤ fr ∧ to' < 65536 from fun h => by
    unfold oneB ramB romB at h
    simp only [Bool.or_eq_true, Bool.and_eq_true, decide_eq_true_eq] at h
    omega)
  generalize oneB fr to' = O at *
  clear hR
  by_cases h1 : to' < fr
  · have HF := Lib.hid (show R = (10, L) from by rw [← HR.out, decide_eq_true h1]; rfl)
    go_enter Tryz.func39, Tryz.ntmps39
    go_wp2
    go_ret
    exact putEnd_same HF.out HM.out (by go_grown)
  · go_enter Tryz.func39, Tryz.ntmps39
    go_wp2_with fail
    ((with_reducible refine (H3.out _).mono ?_); rintro _ u1 ⟨rfl, hb⟩)
    have T : CF u1 mb 0 (v) := by
        refine ⟨?_, ?_⟩ <;> first | (refine kc hb ?_ <;> (go_simp; first | done | rfl)) | (refine kfz hb ?_ ?_ <;> first | (go_size; done) | (go_simp; done))
    have hz := hb.size
    (try simp only [World.size_alloc, World.size_setCell, World.size_drew] at hz)
    have L : mb < u1.heap.size := by omega
    have hB' : Below w.heap.size w u1 := by
        refine kb ?_ hb
        go_grown
    clear hb hz
    obtain ⟨hb_0, fb_0⟩ := T
    have hlb := L; clear L
    obtain ⟨hnb0, hnb1, hkb1, hnb2, hkb2⟩ := ap0 hlb
    have hB := hB'; clear hB'
    have hsz := hB.size
    cases O
    · have HF := Lib.hid (show R = (10, L) from by rw [← HR.out, decide_eq_false (show ¬ to' < fr by omega)]; rfl)
      go_wp2
      go_ret
      exact putEnd_same HF.out HM.out hB
    · have HF := Lib.hid (show R = (0, labsP (to' - fr + 1).toNat L fr t) from by rw [← HR.out, decide_eq_false (show ¬ to' < fr by omega)]; rfl)
      have hf := HA.out rfl
      have hl := HLB.out rfl
      obtain ⟨N, hN⟩ : ∃ N, (to' - fr + 1).toNat = N := ⟨_, rfl⟩
      have hNi : to' = fr + (N : Int) - 1 := by omega
      rw [hN] at HF hl
      obtain ⟨i0, hi, hz0, hz1, hz2⟩ := info_parts Tryz.infoPut
      have HMd := Lib.hid (HM.out.on hB)
      have HKd := Lib.hid (Kp.of_below hB hlt hsz0)
      subst hNi
      have HN := Lib.hid (And.intro hf h1)
      clear HM hN hf h1 HA HR
      go_wp2_with fail
      go_loopw [9] (fun s9 wr => ∃ (k : Nat) (L2 : List Pt), k ≤ N ∧ s9 = .int .i64 (fr + (k : Int)) ∧ Hid (labsP (N - k) L2 (fr + (k : Int)) t = labsP N L fr t) ∧ Hid (L2.length = L.length + k) ∧ Hid (∃ v, Rm mb S0 wr L2 v) ∧ Hid (Kp mb S0 w wr)) (fun i _ => (fr + (N : Int) - intOf i).toNat)
      case atStart => exact ⟨0, L, Nat.zero_le _, by simp, Lib.hid (by simp), Lib.hid rfl, Lib.hid ⟨v, HMd.out⟩, HKd⟩
      case round =>
        obtain ⟨k, L2, hk, rfl, HL, HLn, HRm, HK⟩ := hrel
        obtain ⟨v2, hRm⟩ := HRm.out
        clear hb_0 fb_0 hB hsz hlb hnb0 hnb1 hkb1 hnb2 hkb2
        have hN1 := HN.out
        by_cases hlt2 : k < N
        · have hd : decide (fr + (k : Int) ≤ fr + (N : Int) - 1) = true := decide_eq_true (by omega)
          have hstep : labsP (N - (k + 1)) (L2 ++ [⟨fr + (k : Int), (atP L2 (fr + (k : Int))).1, t⟩]) (fr + ((k + 1 : Nat) : Int)) t = labsP N L fr t := by
            have h := HL.out
            rw [show N - k = (N - (k + 1)) + 1 by omega, labsP] at h
            rw [← h]
            congr 1
            omega
          have HS := Lib.hid hstep
          have hw1 : IntKind.i64.wrap (fr + (k : Int) + 1) = fr + (k : Int) + 1 := IntWalk.i64_in _ (by omega)
          obtain ⟨p2, c2, rfl⟩ := own_form hRm.ow
          have HAt := Lib.hid (fun W (hb : Below wr.heap.size wr W) => atr_c L2 (by have := HLn.out; omega) (fr + (k : Int)) mb S0 _ W (hRm.on hb))
          obtain ⟨⟨av, at_⟩, hat⟩ : ∃ B, atP L2 (fr + (k : Int)) = B := ⟨_, rfl⟩
          rw [hat] at HAt HS
          dsimp only at HAt HS
          obtain ⟨n2, hn2⟩ : ∃ n, L2.length = n := ⟨_, rfl⟩
          have hn2b : n2 ≤ 200000 := by have := HLn.out; omega
          have HN2 := Lib.hid hn2
          have HMr := Lib.hid (show Rm mb S0 wr L2 (.slice p2 n2 c2) from by rw [← hn2]; exact hRm)
          have hbm_0 := HMr.out.c0
          have fbm_0 := hRm.fr
          have hmwr : mb < wr.heap.size := klt hbm_0
          have hswr := hRm.sz
          have HO := Lib.hid (show wr.ownsRow S0 103 3 (.slice p2 n2 c2) n2 _ from by have := hRm.ow; rw [hn2] at this; exact this)
          have hbr : Below wr.heap.size wr wr := Below.refl _ _
          have hfd := fun W => field_v av at_ W
          clear hRm hstep hat hn2 HRm hN1
          go_wp2_with fail
          go_region_law (first
            | (refine step_append8 rfl (.tmp 29) (.tmp 38) 36 rfl S0 103 i0 _ 3 16 Tryz.underlying36 hi hz0 hz1 hz2 rfl (by decide) _ n2 _ (by simp [Act.eval, Act.put]) (own_below HO.out (by go_grown)) ⟨_, 0, none⟩ 1 1 ([(⟨fr + (k : Int), av, t⟩ : Pt)].flatMap Pt.cells) (by simp [Act.eval, Act.put] <;> rfl) rfl (pt_cells_at 103 ⟨fr + (k : Int), av, t⟩) (one_cells8 pt_one _) (by unfold maxLen; omega) (by omega) (by simp; omega) ?_; intro v' w' hown' hg _ hat; obtain ⟨p', cp', rfl⟩ := own_form hown'; have tc : w'.cell? ⟨mb, 0, none⟩ = some (.slice p2 n2 c2) := grown_cell8 (own_below HO.out (by go_grown)) hg hlt (by go_simp); have tf : w'.frozen? ⟨mb, 0, none⟩ = false := grown_frozen8 (own_below HO.out (by go_grown)) hg hlt (by simp; omega) (by go_simp); have HGG := Lib.hid (And.intro hown' (And.intro hg hat)); clear hown' hg hat)
            | (refine step_call rfl (f := 48) (args := #[.pointer (some ⟨mb, 0, none⟩), .int .i64 (fr + (k : Int))]) (v := .agg #[.int .u8 av, .int .u8 at_]) (by first | rfl | (go_simp; done)) (HAt.out _ (by go_grown)) ?_; intro y hby; have hBy : Below wr.heap.size wr y := kb (by go_grown) hby; have hym_0 : y.cell? ⟨mb, 0, none⟩ = some (.slice p2 n2 c2) := kc hBy hbm_0; have fym_0 : y.frozen? ⟨mb, 0, none⟩ = false := kfz hBy hmwr fbm_0; have hmy : mb < y.heap.size := klt hym_0; have hyz : wr.heap.size ≤ y.heap.size := hBy.size; have hsy : S0 ≤ y.heap.size := Nat.le_trans hswr hBy.size; clear hby))
          all_goals
            have HPP := Lib.hid (Rm.app HMr.out (by go_grown) ⟨fr + (k : Int), av, t⟩ HGG.out.2.1 (by rw [HN2.out]; exact HGG.out.1))
            go_wp2
            go_roundw
            case rel => exact ⟨k + 1, _, by omega, by go_num, HS, Lib.hid (by rw [List.length_append, HLn.out]; rfl), Lib.hid ⟨_, HPP.out.1⟩, Lib.hid (HK.out.trans HPP.out.2)⟩
            case measure => simp [intOf] <;> omega
        · have hkm : k = N := by omega
          have hd : decide (fr + (k : Int) ≤ fr + (N : Int) - 1) = false := decide_eq_false (by omega)
          have HFIN := Lib.hid (show Rm mb S0 wr (labsP N L fr t) v2 from by
            have h := HL.out
            rw [show N - k = 0 by omega, labsP] at h
            rw [← h]; exact hRm)
          go_wp2
          go_ret
          rw [HF.out]
          exact ⟨rfl, HK.out, v2, HFIN.out⟩
end Go.Proofs.YtcnejgilmciljaaGreatDoor
set_option linter.unusedSimpArgs false
set_option linter.unusedVariables false
namespace Go.Proofs.YtcnejgilmciljaaGreatDoor
open Go.RowKit Go.PlainAid

/-- A call: which, where, up to where, a byte, bytes. -/
structure OpR where
  q : Int
  a : Int
  b : Int
  v : Int
  t : Int
  l : List Int
/-- A slice that holds these calls, each with its own bytes, all apart from blocks from N on. -/
def HoldsO (N : Nat) (w : World) (v : Value) (l : List OpR) : Prop :=
  ((∃ p c, v = .slice p 0 c) ∧ l = []) ∨ ∃ g o cap, v = .slice (some ⟨g, o, none⟩) l.length cap ∧ l.length ≤ cap ∧ g < N ∧ ∀ j (x : OpR), l[j]? = some x → ∃ lv, w.cell? ⟨g, o + j * 6, none⟩ = some (.int .i64 x.q) ∧ w.cell? ⟨g, o + j * 6 + 1, none⟩ = some (.int .i64 x.a) ∧ w.cell? ⟨g, o + j * 6 + 2, none⟩ = some (.int .i64 x.b) ∧ w.cell? ⟨g, o + j * 6 + 3, none⟩ = some (.int .u8 x.v) ∧ w.cell? ⟨g, o + j * 6 + 4, none⟩ = some (.int .u8 x.t) ∧ w.cell? ⟨g, o + j * 6 + 5, none⟩ = some lv ∧ HoldsB w lv x.l ∧ (0 < x.l.length → ∀ g', lv.ownBlock = some g' → g' < N)
theorem HoldsO.form {N : Nat} {w : World} {v : Value} {l : List OpR} (h : HoldsO N w v l) : ∃ p c, v = .slice p l.length c := by
  rcases h with ⟨⟨p, c, rfl⟩, rfl⟩ | ⟨g, o, cap, rfl, _⟩
  · exact ⟨p, c, rfl⟩
  · exact ⟨_, cap, rfl⟩
theorem HoldsO.below {N : Nat} {w u : World} {v : Value} {l : List OpR} (h : HoldsO N w v l) (hb : Below w.heap.size w u) : HoldsO N u v l := by
  rcases h with h | ⟨g, o, cap, e, hc, hg, h⟩
  · exact .inl h
  · exact .inr ⟨g, o, cap, e, hc, hg, fun j x hx => by
      obtain ⟨lv, a0, a1, a2, a3, a4, a5, a6, a7⟩ := h j x hx
      exact ⟨lv, kc hb a0, kc hb a1, kc hb a2, kc hb a3, kc hb a4, kc hb a5, a6.below hb, a7⟩⟩
def bigO (x : OpR) : Bool := decide ((40 : Int) < (x.l.length : Int)) || ((x.q == 1 && oneB x.a x.b) && decide (60 < x.b - x.a))
def fewO (l : List OpR) : Bool := l.all (fun x => !bigO x) && decide ((l.length : Int) ≤ 30)
end Go.Proofs.YtcnejgilmciljaaGreatDoor
set_option linter.unusedSimpArgs false
set_option linter.unusedVariables false
namespace Go.Proofs.YtcnejgilmciljaaGreatDoor
open Go.RowKit Go.PlainAid

/-- Addresses that hold a byte. -/
def realB (a : Int) : Bool := ramB a || romB a
def setM (M : Int → Int × Int) (a : Int) (x : Int × Int) : Int → Int × Int := fun b => if b = a then x else M b
def loadM : (Int → Int × Int) → Int → List Int → Int → Int × Int
  | M, _, [] => M
  | M, a, b :: r => loadM (setM M a (b, 0)) (a + 1) r
def labelM : Nat → (Int → Int × Int) → Int → Int → Int → Int × Int
  | 0, M, _, _ => M
  | n + 1, M, a, t => labelM n (setM M a ((M a).1, t)) (a + 1) t
/-- The document's row tells these bytes. -/
def Corr (M : Int → Int × Int) (L : List Pt) : Prop := ∀ a, realB a = true → lastP L a = M a
theorem lastK_app (L : List Pt) (x : Pt) (a : Int) : ∀ k, k ≤ L.length → lastK (L ++ [x]) a k = lastK L a k
  | 0, _ => rfl
  | k + 1, h => by
    rw [lastK, lastK, List.getElem?_append_left (by omega), lastK_app L x a k (by omega)]
theorem lastP_snoc (L : List Pt) (x : Pt) (a : Int) : lastP (L ++ [x]) a = if x.a = a then (x.v, x.t) else lastP L a := by
  unfold lastP
  rw [List.length_append, List.length_cons, List.length_nil, Nat.zero_add, lastK, List.getElem?_append_right (Nat.le_refl _), Nat.sub_self]
  show (if x.a = a then (x.v, x.t) else lastK (L ++ [x]) a L.length) = _
  rw [lastK_app L x a _ (Nat.le_refl _)]
theorem corr_nil : Corr (fun _ => (0, 0)) [] := fun a _ => rfl
theorem Corr.snoc {M : Int → Int × Int} {L : List Pt} (h : Corr M L) (x : Pt) : Corr (setM M x.a (x.v, x.t)) (L ++ [x]) := fun a ha => by
  rw [lastP_snoc, setM]
  by_cases e : x.a = a
  · rw [if_pos e, if_pos e.symm]
  · rw [if_neg e, if_neg (fun h => e h.symm), h a ha]
theorem Corr.load : ∀ (bs : List Int) {M : Int → Int × Int} {L : List Pt} (a : Int), Corr M L → Corr (loadM M a bs) (L ++ putsP a bs)
  | [], M, L, a, h => by rw [putsP, List.append_nil]; exact h
  | b :: r, M, L, a, h => by
    have := Corr.load r (a + 1) (h.snoc ⟨a, b, 0⟩)
    rw [List.append_assoc] at this
    exact this
theorem atP_real {M : Int → Int × Int} {L : List Pt} (h : Corr M L) {a : Int} (ha : realB a = true) : atP L a = M a := by
  unfold atP
  rw [if_neg (by rintro ⟨h1, h2⟩; unfold realB at ha; rw [h1, h2] at ha; cases ha)]
  exact h a ha
theorem Corr.label : ∀ (n : Nat) {M : Int → Int × Int} {L : List Pt} (a t : Int), Corr M L → (∀ i : Nat, i < n → realB (a + (i : Int)) = true) → Corr (labelM n M a t) (labsP n L a t)
  | 0, M, L, a, t, h, _ => h
  | n + 1, M, L, a, t, h, hr => by
    have h0 : realB a = true := by have := hr 0 (by omega); simpa using this
    have e : atP L a = M a := atP_real h h0
    rw [labelM, labsP, e]
    refine Corr.label n (a + 1) t (h.snoc ⟨a, (M a).1, t⟩) (fun i hi => ?_)
    have := hr (i + 1) (by omega)
    rw [show a + 1 + (i : Int) = a + ((i + 1 : Nat) : Int) by omega]
    exact this
theorem one_real {f t : Int} (h : oneB f t = true) {a : Int} (h1 : f ≤ a) (h2 : a ≤ t) : realB a = true := by
  unfold oneB ramB romB at h
  unfold realB ramB romB
  simp only [Bool.or_eq_true, Bool.and_eq_true, decide_eq_true_eq] at h ⊢
  omega
theorem labsP_len : ∀ (n : Nat) (L : List Pt) (a t : Int), (labsP n L a t).length = L.length + n
  | 0, L, a, t => rfl
  | n + 1, L, a, t => by rw [labsP, labsP_len n, List.length_append, List.length_cons, List.length_nil]; omega
/-- What the bytes are behind a load, and behind labels. -/
theorem loadM_at : ∀ (bs : List Int) (M : Int → Int × Int) (a x : Int), loadM M a bs x = if h : a ≤ x ∧ x < a + bs.length then (bs[(x - a).toNat]'(by omega), 0) else M x
  | [], M, a, x => by rw [loadM, dif_neg (by simp)]
  | b :: r, M, a, x => by
    rw [loadM, loadM_at r]
    by_cases e : x = a
    · subst e
      rw [dif_neg (by omega), dif_pos (by simp only [List.length_cons]; omega), setM, if_pos rfl]
      simp
    · by_cases hx : a + 1 ≤ x ∧ x < a + 1 + r.length
      · rw [dif_pos hx, dif_pos (by simp only [List.length_cons]; omega)]
        have : (x - a).toNat = (x - (a + 1)).toNat + 1 := by omega
        simp only [this, List.getElem_cons_succ]
      · rw [dif_neg hx, dif_neg (by simp only [List.length_cons]; omega), setM, if_neg e]
theorem labelM_at : ∀ (n : Nat) (M : Int → Int × Int) (a t x : Int), labelM n M a t x = if a ≤ x ∧ x < a + n then ((M x).1, t) else M x
  | 0, M, a, t, x => by rw [labelM, if_neg (by omega)]
  | n + 1, M, a, t, x => by
    rw [labelM, labelM_at n]
    by_cases e : x = a
    · subst e
      rw [if_neg (by omega), if_pos (by omega), setM, if_pos rfl]
    · by_cases hx : a + 1 ≤ x ∧ x < a + 1 + n
      · rw [if_pos hx, if_pos (by omega), setM, if_neg e]
      · rw [if_neg hx, if_neg (by omega), setM, if_neg e]
end Go.Proofs.YtcnejgilmciljaaGreatDoor
