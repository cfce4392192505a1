/-
  Layer 8's document: Label.
-/
import Derived.Test.YtoakgchfdihjbaaDoorLoad8
set_option linter.unusedSimpArgs false
set_option linter.unusedVariables false
namespace Go.Proofs.YtoakgchfdihjbaaDoor
open Go.RowKit Go.PlainAid

/-- A call of a known value, as a step of a region that draws. -/
theorem step_call {P : Program} {ops : Array Oper} {o : Oper} {a : Act} {w : World} {K : Act → World → Prop} {Q : Exit → Act → World → Prop} {E : Prop} (hgd : o.guard = none) {f : FuncId} {args : Array Value} {v : Value}
    (hx : (execOp a.eval o).run P w = .ok (.enter f args) w) (hc : Calls P f args w fun e w' => e = .returned v ∧ Below w.heap.size w w') (hK : ∀ w', Below w.heap.size w w' → K (a.put o.dst v) w') :
    if Region.wanted o (yielded ops a.tmps) = true then Oper.wp P o a w K Q else E := by
  have hw : Region.wanted o (yielded ops a.tmps) = true := by simp [Region.wanted, hgd]
  rw [if_pos hw]
  unfold Oper.wp
  rw [hx]
  exact hc.mono fun e w'' he => by obtain ⟨rfl, hb⟩ := he; exact hK w'' hb
theorem field_v (x y : Int) (W : World) : (Instr.field 33 (.agg #[.int .u8 x, .int .u8 y]) 0).run Tryd.prog W = .ok (.int .u8 x) W := by kernel_rfl
/-- As many labels from an address on. -/
def labsP : Nat → List Pt → Int → Int → List Pt
  | 0, L, _, _ => L
  | n + 1, L, a, t => labsP n (L ++ [⟨a, (atP L a).1, t⟩]) (a + 1) t
def labelP (L : List Pt) (fr to' t : Int) : Int × List Pt := if (decide (to' < fr) || !oneB fr to') = true then (10, L) else (0, labsP (to' - fr + 1).toNat L fr t)
set_option maxRecDepth 100000 in
set_option maxHeartbeats 4000000 in
theorem labelr_c (L : List Pt) (fr to' t : Int) (hl : oneB fr to' = true → L.length + (to' - fr + 1).toNat ≤ 100000) (mb S0 : Nat) (v : Value) (w : World) (hR : Rm mb S0 w L v) :
    Calls Tryd.prog 27 #[.pointer (some ⟨mb, 0, none⟩), .int .i64 fr, .int .i64 to', .int .u8 t] w (PutEnd mb S0 w (labelP L fr to' t).1 (labelP L fr to' t).2) := by
  have H3 := Lib.hid (fun W => oner_c fr to' W)
  have HLB := Lib.hid hl
  clear hl
  obtain ⟨R, hRR⟩ : ∃ R, labelP L fr to' t = R := ⟨_, rfl⟩
  rw [hRR]
  have HR := Lib.hid hRR
  clear hRR
  unfold labelP at HR
  have HM := Lib.hid hR
  have hlt := hR.lt
  have hsz0 := hR.sz
  have hb_0 : w.cell? ⟨mb, 0, none⟩ = some v := hR.c0
  have fb_0 := hR.fr
  have hmw : mb < w.heap.size := klt hb_0
  have HA := Lib.hid (show oneB fr to' = true → 0 ≤ fr ∧ to' < 65536 from fun h => by
    unfold oneB ramB romB at h
    simp only [Bool.or_eq_true, Bool.and_eq_true, decide_eq_true_eq] at h
    omega)
  generalize oneB fr to' = O at *
  clear hR
  by_cases h1 : to' < fr
  · have HF := Lib.hid (show R = (10, L) from by rw [← HR.out, decide_eq_true h1]; rfl)
    go_enter Tryd.func27, Tryd.ntmps27
    go_wp2
    go_ret
    exact putEnd_same HF.out HM.out (by go_grown)
  · go_enter Tryd.func27, Tryd.ntmps27
    go_wp2_with fail
    ((with_reducible refine (H3.out _).mono ?_); rintro _ u1 ⟨rfl, hb⟩)
    have T : CF u1 mb 0 (v) := by
        refine ⟨?_, ?_⟩ <;> first | (refine kc hb ?_ <;> (go_simp; first | done | rfl)) | (refine kfz hb ?_ ?_ <;> first | (go_size; done) | (go_simp; done))
    have hz := hb.size
    (try simp only [World.size_alloc, World.size_setCell, World.size_drew] at hz)
    have L : mb < u1.heap.size := by omega
    have hB' : Below w.heap.size w u1 := by
        refine kb ?_ hb
        go_grown
    clear hb hz
    obtain ⟨hb_0, fb_0⟩ := T
    have hlb := L; clear L
    obtain ⟨hnb0, hnb1, hkb1, hnb2, hkb2⟩ := ap0 hlb
    have hB := hB'; clear hB'
    have hsz := hB.size
    cases O
    · have HF := Lib.hid (show R = (10, L) from by rw [← HR.out, decide_eq_false (show ¬ to' < fr by omega)]; rfl)
      go_wp2
      go_ret
      exact putEnd_same HF.out HM.out hB
    · have HF := Lib.hid (show R = (0, labsP (to' - fr + 1).toNat L fr t) from by rw [← HR.out, decide_eq_false (show ¬ to' < fr by omega)]; rfl)
      have hf := HA.out rfl
      have hl := HLB.out rfl
      obtain ⟨N, hN⟩ : ∃ N, (to' - fr + 1).toNat = N := ⟨_, rfl⟩
      have hNi : to' = fr + (N : Int) - 1 := by omega
      rw [hN] at HF hl
      obtain ⟨i0, hi, hz0, hz1, hz2⟩ := info_parts Tryd.infoP
      have HMd := Lib.hid (HM.out.on hB)
      have HKd := Lib.hid (Kp.of_below hB hlt hsz0)
      subst hNi
      have HN := Lib.hid (And.intro hf h1)
      clear HM hN hf h1 HA HR
      go_wp2_with fail
      go_loopw [9] (fun s9 wr => ∃ (k : Nat) (L2 : List Pt), k ≤ N ∧ s9 = .int .i64 (fr + (k : Int)) ∧ Hid (labsP (N - k) L2 (fr + (k : Int)) t = labsP N L fr t) ∧ Hid (L2.length = L.length + k) ∧ Hid (∃ v, Rm mb S0 wr L2 v) ∧ Hid (Kp mb S0 w wr)) (fun i _ => (fr + (N : Int) - intOf i).toNat)
      case atStart => exact ⟨0, L, Nat.zero_le _, by simp, Lib.hid (by simp), Lib.hid rfl, Lib.hid ⟨v, HMd.out⟩, HKd⟩
      case round =>
        obtain ⟨k, L2, hk, rfl, HL, HLn, HRm, HK⟩ := hrel
        obtain ⟨v2, hRm⟩ := HRm.out
        clear hb_0 fb_0 hB hsz hlb hnb0 hnb1 hkb1 hnb2 hkb2
        have hN1 := HN.out
        by_cases hlt2 : k < N
        · have hd : decide (fr + (k : Int) ≤ fr + (N : Int) - 1) = true := decide_eq_true (by omega)
          have hstep : labsP (N - (k + 1)) (L2 ++ [⟨fr + (k : Int), (atP L2 (fr + (k : Int))).1, t⟩]) (fr + ((k + 1 : Nat) : Int)) t = labsP N L fr t := by
            have h := HL.out
            rw [show N - k = (N - (k + 1)) + 1 by omega, labsP] at h
            rw [← h]
            congr 1
            omega
          have HS := Lib.hid hstep
          have hw1 : IntKind.i64.wrap (fr + (k : Int) + 1) = fr + (k : Int) + 1 := IntWalk.i64_in _ (by omega)
          obtain ⟨p2, c2, rfl⟩ := own_form hRm.ow
          have HAt := Lib.hid (fun W (hb : Below wr.heap.size wr W) => atr_c L2 (by have := HLn.out; omega) (fr + (k : Int)) mb S0 _ W (hRm.on hb))
          obtain ⟨⟨av, at_⟩, hat⟩ : ∃ B, atP L2 (fr + (k : Int)) = B := ⟨_, rfl⟩
          rw [hat] at HAt HS
          dsimp only at HAt HS
          obtain ⟨n2, hn2⟩ : ∃ n, L2.length = n := ⟨_, rfl⟩
          have hn2b : n2 ≤ 200000 := by have := HLn.out; omega
          have HN2 := Lib.hid hn2
          have HMr := Lib.hid (show Rm mb S0 wr L2 (.slice p2 n2 c2) from by rw [← hn2]; exact hRm)
          have hbm_0 := HMr.out.c0
          have fbm_0 := hRm.fr
          have hmwr : mb < wr.heap.size := klt hbm_0
          have hswr := hRm.sz
          have HO := Lib.hid (show wr.ownsRow S0 41 3 (.slice p2 n2 c2) n2 _ from by have := hRm.ow; rw [hn2] at this; exact this)
          have hbr : Below wr.heap.size wr wr := Below.refl _ _
          have hfd := fun W => field_v av at_ W
          clear hRm hstep hat hn2 HRm hN1
          go_wp2_with fail
          go_region_law (first
            | (refine step_append_own rfl (.tmp 29) (.tmp 38) 28 rfl S0 41 i0 _ 3 16 Tryd.underlying28 hi hz0 hz1 hz2 rfl (by decide) _ n2 _ (by simp [Act.eval, Act.put]) (own_below HO.out (by go_grown)) ⟨_, 0, none⟩ 1 1 ([(⟨fr + (k : Int), av, t⟩ : Pt)].flatMap Pt.cells) (by simp [Act.eval, Act.put] <;> rfl) rfl (pt_cells_at 41 ⟨fr + (k : Int), av, t⟩) (one_cells pt_one _) (by unfold maxLen; omega) (by omega) (by simp; omega) ?_; intro v' w' hown' hg _ hat; obtain ⟨p', cp', rfl⟩ := own_form hown'; have tc : w'.cell? ⟨mb, 0, none⟩ = some (.slice p2 n2 c2) := grown_cell (own_below HO.out (by go_grown)) hg hlt (by go_simp); have tf : w'.frozen? ⟨mb, 0, none⟩ = false := grown_frozen (own_below HO.out (by go_grown)) hg hlt (by simp; omega) (by go_simp); have HGG := Lib.hid (And.intro hown' (And.intro hg hat)); clear hown' hg hat)
            | (refine step_call rfl (f := 17) (args := #[.pointer (some ⟨mb, 0, none⟩), .int .i64 (fr + (k : Int))]) (v := .agg #[.int .u8 av, .int .u8 at_]) (by first | rfl | (go_simp; done)) (HAt.out _ (by go_grown)) ?_; intro y hby; have hBy : Below wr.heap.size wr y := kb (by go_grown) hby; have hym_0 : y.cell? ⟨mb, 0, none⟩ = some (.slice p2 n2 c2) := kc hBy hbm_0; have fym_0 : y.frozen? ⟨mb, 0, none⟩ = false := kfz hBy hmwr fbm_0; have hmy : mb < y.heap.size := klt hym_0; have hyz : wr.heap.size ≤ y.heap.size := hBy.size; have hsy : S0 ≤ y.heap.size := Nat.le_trans hswr hBy.size; clear hby))
          all_goals
            have HPP := Lib.hid (Rm.app HMr.out (by go_grown) ⟨fr + (k : Int), av, t⟩ HGG.out.2.1 (by rw [HN2.out]; exact HGG.out.1))
            go_wp2
            go_roundw
            case rel => exact ⟨k + 1, _, by omega, by go_num, HS, Lib.hid (by rw [List.length_append, HLn.out]; rfl), Lib.hid ⟨_, HPP.out.1⟩, Lib.hid (HK.out.trans HPP.out.2)⟩
            case measure => simp [intOf] <;> omega
        · have hkm : k = N := by omega
          have hd : decide (fr + (k : Int) ≤ fr + (N : Int) - 1) = false := decide_eq_false (by omega)
          have HFIN := Lib.hid (show Rm mb S0 wr (labsP N L fr t) v2 from by
            have h := HL.out
            rw [show N - k = 0 by omega, labsP] at h
            rw [← h]; exact hRm)
          go_wp2
          go_ret
          rw [HF.out]
          exact ⟨rfl, HK.out, v2, HFIN.out⟩
end Go.Proofs.YtoakgchfdihjbaaDoor
