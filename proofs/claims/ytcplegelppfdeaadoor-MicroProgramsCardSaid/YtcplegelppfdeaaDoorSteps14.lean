/-
  Layer 14: the document's Steps.
-/
import Derived.Test.YtcplegelppfdeaaDoorNames14
import Derived.Test.YtcplegelppfdeaaDoorAbove
set_option linter.unusedSimpArgs false
set_option linter.unusedVariables false
namespace Go.Proofs.YtcplegelppfdeaaDoor
open Go.RowKit Go.PlainAid

theorem Tryd.infoN14 : (Tryd.prog.info? 3).map (fun i => (i.zero, i.size, i.bytes)) = some (some (.int .i64 0), 1, 8) := by kernel_rfl
theorem nmS_len : nmS.length = 32 := rfl
theorem nmS_short : ∀ x ∈ nmS, x.length ≤ 100 := by decide
/-- The names, in a row. -/
def RowN (gb : Nat) (w : World) : Prop := ∀ k, k < 32 → w.cell? ⟨gb, k, none⟩ = some (.string (txB (nameS k)))
theorem RowN.below {gb N : Nat} {w u : World} (h : RowN gb w) (hb : Below N w u) (hg : gb < N) : RowN gb u := fun k hk => (hb.cell (p := ⟨gb, k, none⟩) hg).trans (h k hk)
set_option maxRecDepth 100000 in
set_option maxHeartbeats 4000000 in
theorem names14_c (w : World) : Calls Tryd.prog 26 #[] w fun e u => ∃ gb, e = .returned (.slice (some ⟨gb, 0, none⟩) 32 32) ∧ RowN gb u ∧ w.heap.size ≤ gb ∧ Below w.heap.size w u := by
  have hR : ∀ T, RowN w.heap.size (w.alloc (Obj.cells (nmS.map fun l => Value.string (txB l)).toArray T)) := fun T k hk => by
    rw [cell_of_row _ _ _ _ _ _ (heap_alloc_new w (.cells (nmS.map fun l => Value.string (txB l)).toArray T))]
    rw [List.getElem?_toArray, List.getElem?_map, List.getElem?_eq_getElem (by rw [nmS_len]; exact hk)]
    unfold nameS
    rw [List.getD_eq_getElem?_getD, List.getElem?_eq_getElem (by rw [nmS_len]; exact hk)]
    rfl
  go_enter Tryd.func26, Tryd.ntmps26
  go_wp2
  go_ret
  exact ⟨_, rfl, hR 9, Nat.le_refl _, by go_grown⟩
def nE (x : Int) : List Value := [.int .i64 x]
theorem nE_len (x : Int) : (nE x).length = 1 := rfl
theorem nE_one (x : Int) : ∀ u ∈ nE x, u.oneCell' = true := by intro u h; simp [nE] at h; subst h; rfl
theorem one_at14 {W : World} (T : TypeId) (z : Value) : ∀ j u, [z][j]? = some u → (W.alloc (.cells #[z] T)).cell? ((⟨W.heap.size, 0, none⟩ : Addr).add j) = some u := cell_one_new W z T
/-- What a row of numbers of a call's own is. -/
structure OwnI (N : Nat) (v : Value) (l : List Int) (w : World) : Prop where
  o : w.ownsRow 0 3 1 v l.length (l.flatMap nE)
  a : ∀ g, v.ownBlock = some g → N ≤ g
def StepsEnd (l : List Int) (w : World) : Ending → World → Prop := fun e u => ∃ v, e = .returned v ∧ OwnI w.heap.size v l u ∧ Below w.heap.size w u
set_option maxRecDepth 100000 in
set_option maxHeartbeats 16000000 in
theorem steps14_c (l : List UInt8) (hl : l.length ≤ 60) (w : World) : Calls Tryd.prog 14 #[.string (txB l)] w (StepsEnd (stepsL l) w) := by
  obtain ⟨i0, hi, hz0, hz1, hz2⟩ := info_parts Tryd.infoN14
  obtain ⟨S, hS⟩ : ∃ S, txB l = S := ⟨_, rfl⟩
  have hSz : S.size = l.length := by rw [← hS, txB_size]
  obtain ⟨n, hn⟩ : ∃ n, l.length = n := ⟨_, rfl⟩
  rw [hn] at hl hSz
  have HS := Lib.hid hS
  have HN := Lib.hid hn
  rw [hS]
  have HF := Lib.hid (show stepsL l = (readS14 l (n + 1)).2 from by unfold stepsL; rw [hn])
  rw [HF.out]
  clear hS hn HF
  go_enter Tryd.func14, Tryd.ntmps14
  go_wp2_with fail
  refine (names14_c _).mono ?_
  rintro _ u ⟨gb, rfl, hrow, hgb, hb⟩
  have hgu : gb < u.heap.size := klt (hrow 0 (by decide))
  have HRow := Lib.hid hrow
  have HB := Lib.hid hb
  have hwu := hb.size
  clear hrow hb
  go_wp2_with fail
  go_loopg [4, 5, 6] (n + 1) (fun kx s4 s5 s6 wr => ∃ (I : Int) (i q : Nat) (p : Option Addr) (c : Nat) (M : ByteArray), s6 = .int .i64 I ∧ Hid (I = (i : Int)) ∧ s5 = .string M ∧ s4 = .slice p q c ∧ i ≤ n + 1 ∧ n + 1 - i ≤ kx ∧ q ≤ 32 * i ∧ M.size ≤ i ∧ Hid (M = txB (readS14 l i).1) ∧ Hid (q = (readS14 l i).2.length ∧ OwnI u.heap.size (.slice p q c) (readS14 l i).2 wr ∧ Below u.heap.size u wr))
  case atStart => exact ⟨0, 0, 0, none, 0, ⟨#[]⟩, by simp, Lib.hid rfl, rfl, by simp, Nat.zero_le _, by omega, Nat.zero_le _, Nat.le_refl _, Lib.hid rfl, Lib.hid ⟨rfl, ⟨⟨rfl, .inl ⟨rfl, rfl⟩⟩, fun g hg => by simp [Value.ownBlock] at hg⟩, Below.refl _ _⟩⟩
  case round =>
    obtain ⟨I, i, q, p, c, M, rfl, HI, rfl, rfl, hi1, hix, hq, hM, HM, HR⟩ := hrel
    have hI := HI.out
    have hw2 : IntKind.i64.wrap (I + 1) = I + 1 := IntWalk.i64_in _ (by omega)
    have hBr := HR.out.2.2
    have hzr := hBr.size
    by_cases hle : i ≤ n
    · have hd : decide (I ≤ (n : Int)) = true := decide_eq_true (by omega)
      have hSi : (S.size : Int) = (n : Int) := by omega
      by_cases hon : i < n ∧ at8 l i ≠ 32
      · obtain ⟨hlt, hne⟩ := hon
        have hlt' : i < l.length := by have := HN.out; omega
        have hd2 : decide (I < (n : Int)) = true := decide_eq_true (by omega)
        have qx := fun W => by have := ix_l l i hlt' I hI W; rw [HS.out] at this; exact this
        have e32 : (bI (at8 l i) == 32) = false := by rw [bI_eq _ 32 32 rfl]; exact beq_eq_false_iff_ne.2 hne
        have e32' : (bI (at8 l i) != 32) = true := by rw [bne, e32]; rfl
        obtain ⟨B1, hB1⟩ : ∃ B1, txB [at8 l i] = B1 := ⟨_, rfl⟩
        have hB1z : B1.size = 1 := by rw [← hB1]; rfl
        have hsl : ∀ W, (Instr.slice 9 (.string S) (some (.int .i64 I)) (some (.int .i64 (I + 1))) none).run Tryd.prog W = .ok (.string B1) W := fun W => by
          rw [← HS.out, run_slice_string _ _ _ _ _ _ _ Tryd.underlying9 (by omega) (by omega) (by rw [txB_size]; omega), txB_extract, show (I + 1).toNat = i + 1 from by omega, show I.toNat = i from by omega, one_char l i hlt', hB1]
        have HNx := Lib.hid (show readS14 l (i + 1) = ((readS14 l i).1 ++ [at8 l i], (readS14 l i).2) from by rw [readS14, if_pos ⟨hlt', hne⟩])
        have HM1 := Lib.hid (show M ++ B1 = txB (readS14 l (i + 1)).1 from by rw [HNx.out, HM.out, ← hB1, txB_append])
        have HR1 := Lib.hid (show q = (readS14 l (i + 1)).2.length ∧ OwnI u.heap.size (.slice p q c) (readS14 l (i + 1)).2 wr ∧ Below u.heap.size u wr from by rw [HNx.out]; exact HR.out)
        have hMz : M.size ≤ 100 := by omega
        generalize bI (at8 l i) = bc at *
        have hI1 : I + 1 = ((i + 1 : Nat) : Int) := by omega
        have HI1 := Lib.hid hI1
        clear hne hB1 HNx HM HR hBr hI hI1
        go_wp2
        go_roundg (n - i)
        case measure => omega
        case rel => exact ⟨I + 1, i + 1, q, p, c, _, rfl, HI1, rfl, rfl, by omega, by omega, by omega, by rw [ByteArray.size_append]; omega, HM1, HR1⟩
      · have HNx := Lib.hid (show readS14 l (i + 1) = ([], (readS14 l i).2 ++ hitsS (readS14 l i).1 32) from by rw [readS14, if_neg (by rw [HN.out]; exact hon)])
        have hcase : (decide (I < (n : Int)) = true ∧ ∀ W, (Instr.index 9 (.string S) (.int .i64 I)).run Tryd.prog W = .ok (.int .u8 32) W) ∨ decide (I < (n : Int)) = false := by
          by_cases hlt : i < n
          · have hlt' : i < l.length := by have := HN.out; omega
            have h32 : at8 l i = 32 := Classical.byContradiction fun h => hon ⟨hlt, h⟩
            exact .inl ⟨decide_eq_true (by omega), fun W => by have := ix_l l i hlt' I hI W; rw [HS.out, h32] at this; exact this⟩
          · exact .inr (decide_eq_false (by omega))
        have HI1 := Lib.hid (show I + 1 = ((i + 1 : Nat) : Int) by omega)
        clear hon hI
        have HWd := Lib.hid (show M.data.toList = (readS14 l i).1 from by rw [HM.out])
        have HRo := Lib.hid HR.out
        obtain ⟨Wd, hWd⟩ : ∃ x, (readS14 l i).1 = x := ⟨_, rfl⟩
        obtain ⟨Rs, hRs⟩ : ∃ x, (readS14 l i).2 = x := ⟨_, rfl⟩
        rw [hWd] at HNx HM HWd
        rw [hRs] at HNx HRo HR
        clear hWd hRs
        rcases hcase with ⟨hd2, qx⟩ | hd2
        all_goals
          go_wp2_with fail
          clear hBr hzr
          obtain ⟨wo, rfl⟩ : ∃ W, W = wr := ⟨wr, rfl⟩
          go_loopg [4, 7] 32 (fun ky s4 s7 wx => ∃ (k q2 : Nat) (p2 : Option Addr) (c2 : Nat), s7 = .int .i64 k ∧ s4 = .slice p2 q2 c2 ∧ k ≤ 32 ∧ 32 - k ≤ ky ∧ q2 ≤ 32 * i + k ∧ Hid (q2 = (Rs ++ hitsS Wd k).length ∧ OwnI u.heap.size (.slice p2 q2 c2) (Rs ++ hitsS Wd k) wx ∧ Below u.heap.size u wx))
          case atStart => exact ⟨0, q, p, c, by simp, rfl, by omega, by omega, by omega, Lib.hid ⟨by rw [hitsS, List.append_nil]; exact HRo.out.1, by rw [hitsS, List.append_nil]; exact HRo.out.2.1, HRo.out.2.2⟩⟩
          case round =>
            clear HRo HR
            obtain ⟨k, q2, p2, c2, rfl, rfl, hk, hky, hq2, HR⟩ := hrel
            have hBr := HR.out.2.2
            have hzr := hBr.size
            by_cases hk32 : k < 32
            · have hdk : decide ((k : Int) < 32) = true := decide_eq_true (by omega)
              have hin : (0 : Int) ≤ (k : Int) ∧ (k : Int) < 32 := by omega
              have hwk : IntKind.i64.wrap ((k : Int) + 1) = (k : Int) + 1 := IntWalk.i64_in _ (by omega)
              have z0 := HRow.out.below hBr hgu k hk32
              have hzl := klt z0
              obtain ⟨NB, hNB⟩ : ∃ x, txB (nameS k) = x := ⟨_, rfl⟩
              have hNz : NB.size ≤ 100 := by
                rw [← hNB, txB_size]
                unfold nameS
                rw [List.getD_eq_getElem?_getD, List.getElem?_eq_getElem (by rw [nmS_len]; exact hk32)]
                exact nmS_short _ (List.getElem_mem _)
              have hbq : (NB.toList == M.toList) = (nameS k == Wd) := by rw [← hNB, HM.out, txB_toList, txB_toList]
              rw [hNB] at z0
              have HO := Lib.hid HR.out.2.1
              have HL := Lib.hid HR.out.1
              clear hNB HR
              cases hit : (nameS k == Wd)
              · rw [hit] at hbq
                have HNk := Lib.hid (show hitsS Wd (k + 1) = hitsS Wd k from by rw [hitsS, if_neg (by rw [hit]; simp)])
                have HBr := Lib.hid hBr
                clear hit
                go_wp2
                go_roundg (32 - (k + 1))
                case measure => omega
                case rel => exact ⟨k + 1, q2, p2, c2, by go_num, rfl, by omega, by omega, by omega, Lib.hid (by rw [HNk.out]; exact ⟨HL.out, HO.out, HBr.out⟩)⟩
              · rw [hit] at hbq
                have HNk := Lib.hid (show Rs ++ hitsS Wd (k + 1) = (Rs ++ hitsS Wd k) ++ [(k : Int)] from by rw [hitsS, if_pos hit, List.append_assoc])
                have HBr := Lib.hid hBr
                obtain ⟨LL, hLL⟩ : ∃ x, Rs ++ hitsS Wd k = x := ⟨_, rfl⟩
                rw [hLL] at HO HL HNk
                have HOw := Lib.hid (show wr.ownsRow 0 3 1 (.slice p2 q2 c2) q2 (LL.flatMap nE) from by rw [HL.out]; exact HL.out ▸ HO.out.o)
                clear hit hLL
                go_wp2_with (at_builtin; refine wpList_append_f _ rfl _ _ 22 rfl 3 i0 _ 1 8 Tryd.underlying22 hi hz0 hz1 hz2 rfl (by decide) _ q2 (LL.flatMap nE) rfl ?c0 ⟨_, 0, none⟩ 1 1 (nE (k : Int)) rfl rfl ?c1 ?c2 ?c3 ?c4 ?_)
                case c0 => exact Below.ownRow ((Below.refl _ _).alloc (Nat.le_refl _) _) HOw.out
                (try case c1 => exact one_at14 _ _)
                case c2 => exact nE_one _
                case c3 => unfold maxLen; omega
                case c4 => omega
                intro v2 w2 hown2 hg2
                obtain ⟨p3, c3, rfl⟩ := own_form hown2
                have HG := Lib.hid (And.intro hown2 (hg2.above (N := u.heap.size) (w := u) (HBr.out.alloc hzr _) (Nat.le_refl _) HO.out.a))
                clear hown2 hg2
                go_wp2
                go_roundg (32 - (k + 1))
                case measure => omega
                case rel => exact ⟨k + 1, q2 + 1, p3, c3, by go_num, rfl, by omega, by omega, by omega, Lib.hid (by rw [HNk.out, List.length_append, List.length_singleton, ← HL.out]; exact ⟨rfl, ⟨by rw [List.length_append, List.length_singleton, ← HL.out, List.flatMap_append, List.flatMap_singleton]; exact HG.out.1, HG.out.2.2⟩, HG.out.2.1⟩)⟩
            · obtain rfl : k = 32 := by omega
              have hdk : decide (((32 : Nat) : Int) < 32) = false := by decide
              have HRn := Lib.hid (show q2 = (readS14 l (i + 1)).2.length ∧ OwnI u.heap.size (.slice p2 q2 c2) (readS14 l (i + 1)).2 wr ∧ Below u.heap.size u wr from by rw [HNx.out]; exact HR.out)
              have HMn := Lib.hid (show (⟨#[]⟩ : ByteArray) = txB (readS14 l (i + 1)).1 from by rw [HNx.out])
              clear HR HNx hBr
              go_wp2
              go_roundg (n - i)
              case measure => omega
              case rel => exact ⟨I + 1, i + 1, q2, p2, c2, ⟨#[]⟩, rfl, HI1, rfl, rfl, by omega, by omega, by omega, Nat.zero_le _, HMn, HRn⟩
    · have hd : decide (I ≤ (n : Int)) = false := decide_eq_false (by omega)
      have hSi : (S.size : Int) = (n : Int) := by omega
      obtain rfl : i = n + 1 := by omega
      have HE := Lib.hid (show OwnI w.heap.size (.slice p q c) (readS14 l (n + 1)).2 wr ∧ Below w.heap.size w wr from ⟨⟨HR.out.2.1.o, fun g hg => Nat.le_trans hwu (HR.out.2.1.a g hg)⟩, Below.trans HB.out (HR.out.2.2.mono hwu)⟩)
      clear HR hBr
      go_wp2
      go_ret
      exact ⟨_, rfl, HE.out⟩
end Go.Proofs.YtcplegelppfdeaaDoor
