/-
  BusLow: Turned's walk.
-/
import Derived.Test.YtcnejgilmciljaaGreatDoorTurned13
set_option linter.unusedSimpArgs false
set_option linter.unusedVariables false
namespace Go.Proofs.YtcnejgilmciljaaGreatDoor
open Go.RowKit Go.PlainAid

theorem three_at {W : World} (T : TypeId) (z z' z2 : Value) : ∀ j u, [z, z', z2][j]? = some u → (W.alloc (.cells #[z, z', z2] T)).cell? ((⟨W.heap.size, 0, none⟩ : Addr).add j) = some u := by
  intro j u hu
  rw [Addr.add_lit, Nat.zero_add, cell_of_row _ _ _ _ _ _ (heap_alloc_new W (.cells #[z, z', z2] T))]
  simpa using hu
theorem ckV_one (x : Ck) (p : Option Addr) (n c : Nat) : ∀ u ∈ ckV (x, .slice p n c), u.oneCell' = true := by intro u h; simp [ckV] at h; rcases h with rfl | rfl | rfl <;> rfl
/-- An append to a row of one's own, that lies above N. -/
theorem Grew.above {N : Nat} {w u w' : World} {v v' : Value} (hg : Grew u w' v v') (hb : Below N w u) (hN : N ≤ w.heap.size) (hv : ∀ g, v.ownBlock = some g → N ≤ g) : Below N w w' ∧ ∀ g, v'.ownBlock = some g → N ≤ g := by
  have hz := hb.size
  refine ⟨Fr.toBelow hb (Fr.ofGrown (F := fun b => N ≤ b) hg.1 (fun b _ e => hv b e)) (fun b h => h) hN, fun g e => ?_⟩
  rcases hg.2 with h1 | ⟨h1, _⟩
  · exact hv g (by rw [← h1]; exact e)
  · rw [h1] at e; have := Option.some.inj e; omega
set_option maxRecDepth 100000 in
set_option maxHeartbeats 32000000 in
theorem turned13_c (by_ : Int) (hby : byteI by_) (s : Su) (lv pv sv : Value) (w : World) (h : InS w.heap.size w lv pv sv s) (hc6 : s.cs.length ≤ 6) (hck : ∀ x ∈ s.cs, x.l.length ≤ 60) (hs60 : s.sec.length ≤ 60) :
    Calls Tryz.prog 16 #[.agg (suA lv pv sv s.T), .int .u8 by_] w fun e u => ∃ lv' sv', e = .returned (.agg (suA lv' pv sv' s.T)) ∧ InS u.heap.size u lv' pv sv' (turnS by_ s) ∧ Below w.heap.size w u := by
  obtain ⟨p, c, rfl⟩ := h.c.form
  obtain ⟨p2, c2, rfl⟩ := h.s.1.form
  obtain ⟨p1, c1, rfl⟩ := h.p.1.form
  obtain ⟨np, hnp⟩ : ∃ n, s.pub.length = n := ⟨_, rfl⟩
  have HIn := Lib.hid h
  obtain ⟨n, hn⟩ : ∃ n, s.cs.length = n := ⟨_, rfl⟩
  obtain ⟨m, hm⟩ : ∃ m, s.sec.length = m := ⟨_, rfl⟩
  rw [hn] at hc6 HIn ⊢
  rw [hm] at hs60 HIn ⊢
  rw [hnp] at HIn ⊢
  have HN := Lib.hid (And.intro hn hm)
  have HCk := Lib.hid hck
  have HBy := Lib.hid hby
  obtain ⟨i0, hi, hz0, hz1, hz2⟩ := info_parts Tryz.infoU8
  obtain ⟨i1, hi', hz0', hz1', hz2'⟩ := info_parts Tryz.infoCk
  clear h hn hm hck hby hnp
  unfold suA
  go_enter Tryz.func16, Tryz.ntmps16
  go_wp2_with fail
  obtain ⟨W, hW⟩ : ∃ W, W = ((w.alloc (Obj.cells (suA (.slice p n c) (.slice p1 np c1) (.slice p2 m c2) s.T) 27)).alloc (Obj.cells #[.slice none 0 0, .int .i64 0, .int .i64 0, .bool false, .bool false, .bool false, .bool false, .slice none 0 0, .slice none 0 0] 27)).alloc (Obj.cells #[.slice none 0 0, .int .i64 s.T.l, .int .i64 s.T.c, .bool s.T.r, .bool s.T.a, .bool s.T.s, .bool s.T.g, (.slice p1 np c1), .slice none 0 0] 27) := ⟨_, rfl⟩
  obtain ⟨hT0, hZ0⟩ := Tn.start hW
  have HT := Lib.hid hT0
  have HZ := Lib.hid hZ0
  unfold suA at hW
  rw [← hW]
  clear hW hT0 hZ0
  go_loopg [6] n (fun kx s6 wr => ∃ (k : Nat) (cs : List (Ck × Value)) (a : Value), s6 = .int .i64 k ∧ k ≤ n ∧ n - k ≤ kx ∧ Hid (Tn w (.slice p n c) (.slice p1 np c1) (.slice p2 m c2) s.T cs [] a (.slice none 0 0) wr) ∧ Hid (Zr w wr) ∧ Hid (cs.map Prod.fst = (s.cs.take k).map (turnC by_)))
  case atStart => exact ⟨0, [], _, by simp, Nat.zero_le _, by omega, HT, HZ, Lib.hid rfl⟩
  case round =>
    clear HT HZ
    obtain ⟨k, cs, a, rfl, hk, hkx, HT, HZ, HE⟩ := hrel
    have q0 : wr.cell? ⟨w.heap.size, 0, none⟩ = some (.slice p n c) := HT.out.c 0 _ rfl
    have hq := klt q0
    by_cases hlk : k < n
    · have hk1 : k < s.cs.length := by have := HN.out.1; omega
      have hd : decide ((k : Int) < (n : Int)) = true := decide_eq_true (by omega)
      have hin : (0 : Int) ≤ (k : Int) ∧ (k : Int) < (n : Int) := by omega
      have hw2 : IntKind.i64.wrap ((k : Int) + 1) = (k : Int) + 1 := IntWalk.i64_in _ (by omega)
      rcases HIn.out.c with ⟨_, e⟩ | ⟨g, o, cap, e1, hcap, hgN, hcc⟩
      · rw [e] at hk1; exact absurd hk1 (by simp)
      obtain ⟨rfl, -, rfl⟩ := Value.slice.inj e1
      obtain ⟨xv, x0, x1, x2, x6, x7⟩ := hcc k _ (List.getElem?_eq_getElem hk1)
      have hx60 := HCk.out _ (List.getElem_mem hk1)
      have hxb := (HIn.out.ck _ (List.getElem_mem hk1)).2
      have hE1 : (s.cs.take (k + 1)).map (turnC by_) = (s.cs.take k).map (turnC by_) ++ [turnC by_ s.cs[k]] := by rw [List.take_add_one, List.getElem?_eq_getElem hk1, List.map_append]; rfl
      generalize s.cs[k] = x at *
      obtain ⟨xa, xl, xt⟩ := x
      dsimp only at x0 x1 x2 x6 x7 hx60 hxb
      obtain ⟨lp, lc, rfl⟩ := x6.form
      have HX := Lib.hid x6
      have HE1 := Lib.hid hE1
      have HXb := Lib.hid hxb
      obtain ⟨m1, hm1⟩ : ∃ m, xl.length = m := ⟨_, rfl⟩
      rw [hm1] at x1 hx60 HX
      have HM1 := Lib.hid hm1
      have y0 := kc HT.out.bel x0
      have y1 := kc HT.out.bel x1
      have y2 := kc HT.out.bel x2
      have hgl := klt y0
      clear e1 hcc x0 x1 x2 x6 x7 hE1 hxb hm1 hk1
      go_wp2_with fail
      obtain ⟨W2, hW2⟩ : ∃ W, W = wr.alloc (Obj.cells #[.int .i64 xa, .slice lp m1 lc, .int .u8 xt] 73) := ⟨_, rfl⟩
      have k0 : W2.cell? ⟨wr.heap.size, 0, none⟩ = some (.int .i64 xa) := by rw [hW2]; go_simp; first | done | rfl
      have k1 : W2.cell? ⟨wr.heap.size, 1, none⟩ = some (.slice lp m1 lc) := by rw [hW2]; go_simp; first | done | rfl
      have k2 : W2.cell? ⟨wr.heap.size, 2, none⟩ = some (.int .u8 xt) := by rw [hW2]; go_simp; first | done | rfl
      have hbW : Below wr.heap.size wr W2 := by rw [hW2]; go_grown
      have HT2 := Lib.hid (HT.out.below hbW)
      have HZ2 := Lib.hid (HZ.out.below hbW)
      have hrw := hbW.size
      rw [← hW2]
      clear hW2 hbW y0 y1 y2 hgl q0 hq HT HZ
      obtain ⟨wo, rfl⟩ : ∃ W, W = wr := ⟨wr, rfl⟩
      go_loopg [8, 9] m1 (fun kx s8 s9 wi => ∃ (j : Nat) (p' : Option Addr) (c' : Nat), s9 = .int .i64 j ∧ s8 = .slice p' j c' ∧ j ≤ m1 ∧ m1 - j ≤ kx ∧ Hid (wi.ownsRow 0 5 1 (.slice p' j c') j (((xl.take j).map fun b => bits .xor .u8 b (bits .and .u8 by_ xt)).flatMap bE) ∧ (∀ g, (Value.slice p' j c').ownBlock = some g → W2.heap.size ≤ g) ∧ Below W2.heap.size W2 wi))
      case atStart => exact ⟨0, none, 0, by simp, by simp, Nat.zero_le _, by omega, Lib.hid ⟨⟨rfl, .inl ⟨rfl, rfl⟩⟩, fun g hg => by simp [Value.ownBlock] at hg, Below.refl _ _⟩⟩
      case round =>
        obtain ⟨j, p', c', rfl, rfl, hj, hjx, HR⟩ := hrel
        have hBi := HR.out.2.2
        have hBz := hBi.size
        have k0' := kc hBi k0
        have k1' := kc hBi k1
        have k2' := kc hBi k2
        have hkr := klt k0'
        by_cases hjm : j < m1
        · have hjl : j < xl.length := by have := HM1.out; omega
          have hdj : decide ((j : Int) < (m1 : Int)) = true := decide_eq_true (by omega)
          have hinj : (0 : Int) ≤ (j : Int) ∧ (j : Int) < (m1 : Int) := by omega
          have hwj : IntKind.i64.wrap ((j : Int) + 1) = (j : Int) + 1 := IntWalk.i64_in _ (by omega)
          obtain ⟨g', o', cap', e2, hcap', hce⟩ := HX.out.some (by omega)
          obtain ⟨rfl, -, rfl⟩ := Value.slice.inj e2
          have z0 := hce j _ (List.getElem?_eq_getElem hjl) 0 _ rfl
          rw [Nat.mul_one, Nat.add_zero] at z0
          have HE2 := Lib.hid (show ((xl.take (j + 1)).map (fun b => bits .xor .u8 b (bits .and .u8 by_ xt))).flatMap bE = ((xl.take j).map (fun b => bits .xor .u8 b (bits .and .u8 by_ xt))).flatMap bE ++ bE (bits .xor .u8 xl[j] (bits .and .u8 by_ xt)) from by rw [List.take_add_one, List.getElem?_eq_getElem hjl, List.map_append, List.flatMap_append]; rfl)
          generalize xl[j] = V at *
          have z0 := kc hBi (kc HT2.out.bel z0)
          have hzl := klt z0
          have HO := Lib.hid HR.out.1
          have HOb := Lib.hid HR.out.2.1
          clear e2 hce hjl HR
          generalize ((xl.take j).map (fun b => bits .xor .u8 b (bits .and .u8 by_ xt))).flatMap bE = XS at *
          go_wp2_with fail
          go_region_law (refine step_append_f rfl (.tmp 35) (.tmp 46) 25 rfl 5 i0 _ 1 1 Tryz.underlying25 hi hz0 hz1 hz2 rfl (by decide) (.slice p' j c') j XS (by simp [Act.eval, Act.put]) (Below.ownRow (by go_grown) HO.out) ⟨_, 0, none⟩ 1 1 (bE (bits .xor .u8 V (bits .and .u8 by_ xt))) (by simp [Act.eval, Act.put] <;> rfl) rfl (one_at _ _) (bE_one _) (by unfold maxLen; omega) (by omega) ?_; intro v' w' hown' hg; obtain ⟨p'', c'', rfl⟩ := own_form hown'; have HG := Lib.hid (And.intro hown' (hg.above (N := W2.heap.size) (w := W2) (by go_grown <;> omega) (Nat.le_refl _) HOb.out)); clear hown' hg)
          all_goals
            go_wp2
            go_roundg (m1 - (j + 1))
            case measure => omega
            case rel => exact ⟨j + 1, p'', c'', by go_num, rfl, by omega, by omega, Lib.hid ⟨by rw [HE2.out]; exact HG.out.1, HG.out.2.2, HG.out.2.1⟩⟩
        · obtain rfl : j = m1 := by omega
          have hdj : decide ((j : Int) < (j : Int)) = false := decide_eq_false (by omega)
          have HT3 := Lib.hid (HT2.out.below hBi)
          have HZ3 := Lib.hid (HZ2.out.below hBi)
          obtain ⟨pa, ca, hpa⟩ := own_form ((HT3.out.hold.own 0 _ rfl).1)
          dsimp only at hpa
          subst hpa
          obtain ⟨nc, hnc⟩ : ∃ q, cs.length = q := ⟨_, rfl⟩
          have HNc := Lib.hid hnc
          have HO := Lib.hid (show wr.ownsRow 0 73 3 (.slice pa nc ca) nc (cs.flatMap ckV) from by have := (HT3.out.hold.own 0 _ rfl).1; dsimp only at this; rw [hnc] at this; exact this)
          have HDo := Lib.hid (show (Value.slice pa nc ca).ownBlock ≠ some (w.heap.size + 2) from by have := (HT3.out.hold.own 0 _ rfl).2; dsimp only at this; rw [hnc] at this; exact this)
          have b0 : wr.cell? ⟨w.heap.size + 2, 0, none⟩ = some (.slice pa nc ca) := by rw [← hnc]; exact (HT3.out.hold.cell 0 _ rfl).1
          have fb0 : wr.frozen? ⟨w.heap.size + 2, 0, none⟩ = false := (HT3.out.hold.cell 0 _ rfl).2
          have hbl := klt b0
          have hncb : nc ≤ 6 := by rw [← hnc]; have := congrArg List.length HE.out; simp at this; omega
          have HEl := Lib.hid (show ElT (w.heap.size + 2) (foot (w.heap.size + 2) (rT cs [] (.slice pa cs.length ca) (.slice none 0 0))) wr (⟨xa, xl.map (fun b => bits .xor .u8 b (bits .and .u8 by_ xt)), xt⟩, .slice p' j c') from by
            have ho := HR.out.1
            rw [List.take_of_length_le (by rw [HM1.out]; exact Nat.le_refl _)] at ho
            refine ⟨HoldsW.own bE_len (by rw [List.length_map, HM1.out]; exact ho), fun hl g hg => ?_⟩
            have h1 := HR.out.2.1 g hg
            have h2 := (ho.lt g hg).2
            have h3 := HT2.out.hold.lt
            exact ⟨⟨by omega, h2⟩, fun hf => by have := HT2.out.hold.foot_lt hf; omega⟩)
          clear hnc HR HT2 HZ2
          go_wp2_with (at_builtin; refine wpList_append_f _ rfl _ _ 22 rfl 73 i1 _ 3 40 Tryz.underlying22 hi' hz0' hz1' hz2' rfl (by decide) _ nc (cs.flatMap ckV) rfl ?c0 ⟨_, 0, none⟩ 1 1 (ckV (⟨xa, xl.map (fun b => bits .xor .u8 b (bits .and .u8 by_ xt)), xt⟩, .slice p' j c')) rfl rfl ?c1 ?c2 ?c3 ?c4 ?_)
          case c0 => exact Below.ownRow ((Below.refl _ _).alloc (Nat.le_refl _) _) HO.out
          (try case c1 => exact three_at _ _ _ _)
          case c2 => exact ckV_one _ _ _ _
          case c3 => unfold maxLen; omega
          case c4 => omega
          intro v2 w2 hown2 hg2
          obtain ⟨p3, c3, rfl⟩ := own_form hown2
          have hcs : w2.cell? ⟨w.heap.size + 2, 0, none⟩ = some (.slice pa nc ca) := hg2.cell HDo.out (by go_simp)
          have hfs : w2.frozen? ⟨w.heap.size + 2, 0, none⟩ = false := hg2.frozen HDo.out (by simp; omega) (by go_simp)
          have hbU := (Below.refl wr.heap.size wr).alloc (Nat.le_refl _) (Obj.cells #[.int .i64 xa, .slice p' j c', .int .u8 xt] 73)
          have HNew := Lib.hid (HT3.out.ck hbU (HEl.out.below hbU) (by rw [HNc.out]; exact hown2) (by rw [HNc.out]; exact hg2))
          have HZn := Lib.hid ((HZ3.out.below hbU).fr HNew.out.2 HT3.out.n1)
          clear hown2 hg2 hbU HT3 HZ3 HEl
          go_wp2
          go_roundg (n - (k + 1))
          case measure => omega
          case rel => exact ⟨k + 1, _, _, by go_num, by omega, by omega, Lib.hid HNew.out.1, HZn, Lib.hid (by rw [HE1.out, List.map_append, HE.out]; rfl)⟩
    · obtain rfl : k = n := by omega
      have hd : decide ((k : Int) < (k : Int)) = false := decide_eq_false (by omega)
      have HE := Lib.hid (show cs.map Prod.fst = s.cs.map (turnC by_) from by have := HE.out; rw [List.take_of_length_le (by have := HN.out.1; omega)] at this; exact this)
      clear q0 hq
      have q0 : wr.cell? ⟨w.heap.size, 0, none⟩ = some (.slice p k c) := HT.out.c 0 _ rfl
      have hq := klt q0
      go_wp2_with fail
      clear q0 hq
      go_loopg [10] m (fun kx s10 wx => ∃ (i : Nat) (sec : List Int) (b : Value), s10 = .int .i64 i ∧ i ≤ m ∧ m - i ≤ kx ∧ Hid (Tn w (.slice p k c) (.slice p1 np c1) (.slice p2 m c2) s.T cs sec a b wx) ∧ Hid (Zr w wx) ∧ Hid (sec = (s.sec.take i).map fun b => bits .xor .u8 b by_))
      case atStart => exact ⟨0, [], _, by simp, Nat.zero_le _, by omega, HT, HZ, Lib.hid rfl⟩
      case round =>
        clear HT HZ
        obtain ⟨i, sec, b, rfl, him, hix, HT, HZ, HS⟩ := hrel
        have q8 : wr.cell? ⟨w.heap.size, 8, none⟩ = some (.slice p2 m c2) := HT.out.c 8 _ rfl
        have hq8 := klt q8
        obtain ⟨pb, cb, hpb⟩ := own_form ((HT.out.hold.own 1 _ rfl).1)
        dsimp only at hpb
        subst hpb
        obtain ⟨nb, hnb⟩ : ∃ q, sec.length = q := ⟨_, rfl⟩
        have HNb := Lib.hid hnb
        have b8 : wr.cell? ⟨w.heap.size + 2, 8, none⟩ = some (.slice pb nb cb) := by rw [← hnb]; exact (HT.out.hold.cell 1 _ rfl).1
        have fb8 : wr.frozen? ⟨w.heap.size + 2, 8, none⟩ = false := (HT.out.hold.cell 1 _ rfl).2
        have hbl := klt b8
        by_cases himl : i < m
        · have hsl : i < s.sec.length := by have := HN.out.2; omega
          have hdi : decide ((i : Int) < (m : Int)) = true := decide_eq_true (by omega)
          have hini : (0 : Int) ≤ (i : Int) ∧ (i : Int) < (m : Int) := by omega
          have hwi : IntKind.i64.wrap ((i : Int) + 1) = (i : Int) + 1 := IntWalk.i64_in _ (by omega)
          have hnbb : nb ≤ 60 := by rw [← hnb, HS.out, List.length_map, List.length_take]; omega
          obtain ⟨g', o', cap', e2, hcap', hce⟩ := HIn.out.s.1.some (by omega)
          obtain ⟨rfl, -, rfl⟩ := Value.slice.inj e2
          have z0 := hce i _ (List.getElem?_eq_getElem hsl) 0 _ rfl
          rw [Nat.mul_one, Nat.add_zero] at z0
          have HE2 := Lib.hid (show (s.sec.take (i + 1)).map (fun b => bits .xor .u8 b by_) = (s.sec.take i).map (fun b => bits .xor .u8 b by_) ++ [bits .xor .u8 s.sec[i] by_] from by rw [List.take_add_one, List.getElem?_eq_getElem hsl, List.map_append]; rfl)
          generalize s.sec[i] = V at *
          have z0 := kc HT.out.bel z0
          have hzl := klt z0
          have HO := Lib.hid (show wr.ownsRow 0 5 1 (.slice pb nb cb) nb (sec.flatMap bE) from by have := (HT.out.hold.own 1 _ rfl).1; dsimp only at this; rw [hnb] at this; exact this)
          have HDo := Lib.hid (show (Value.slice pb nb cb).ownBlock ≠ some (w.heap.size + 2) from by have := (HT.out.hold.own 1 _ rfl).2; dsimp only at this; rw [hnb] at this; exact this)
          have hBr := Below.refl wr.heap.size wr
          clear e2 hce hsl hnb
          go_wp2_with fail
          go_region_law (refine step_append_f rfl (.tmp 67) (.tmp 75) 25 rfl 5 i0 _ 1 1 Tryz.underlying25 hi hz0 hz1 hz2 rfl (by decide) (.slice pb nb cb) nb (sec.flatMap bE) (by simp [Act.eval, Act.put]) (Below.ownRow (by go_grown) HO.out) ⟨_, 0, none⟩ 1 1 (bE (bits .xor .u8 V by_)) (by simp [Act.eval, Act.put] <;> rfl) rfl (one_at _ _) (bE_one _) (by unfold maxLen; omega) (by omega) ?_; intro v' w' hown' hg; obtain ⟨p'', c'', rfl⟩ := own_form hown'; have hcs : w'.cell? ⟨w.heap.size + 2, 8, none⟩ = some (.slice pb nb cb) := hg.cell HDo.out (by go_simp); have hfs : w'.frozen? ⟨w.heap.size + 2, 8, none⟩ = false := hg.frozen HDo.out (by simp; omega) (by go_simp); have HNew := Lib.hid (HT.out.more (hg.base (N := wr.heap.size) (w := wr) (by go_grown)) (by rw [HNb.out]; exact hown') (by rw [HNb.out]; exact hg)); have HZn := Lib.hid ((HZ.out.below (hg.base (N := wr.heap.size) (w := wr) (by go_grown))).fr HNew.out.2 HT.out.n1); clear hown' hg)
          all_goals
            go_wp2
            go_roundg (m - (i + 1))
            case measure => omega
            case rel => exact ⟨i + 1, _, _, by go_num, by omega, by omega, Lib.hid HNew.out.1, HZn, Lib.hid (by rw [HE2.out, HS.out])⟩
        · obtain rfl : i = m := by omega
          have hdi : decide ((i : Int) < (i : Int)) = false := decide_eq_false (by omega)
          obtain ⟨pa, ca, hpa⟩ := own_form ((HT.out.hold.own 0 _ rfl).1)
          dsimp only at hpa
          subst hpa
          obtain ⟨nc, hnc⟩ : ∃ q, cs.length = q := ⟨_, rfl⟩
          have HNc := Lib.hid hnc
          have b0 : wr.cell? ⟨w.heap.size + 2, 0, none⟩ = some (.slice pa nc ca) := by rw [← hnc]; exact (HT.out.hold.cell 0 _ rfl).1
          have b1 : wr.cell? ⟨w.heap.size + 2, 1, none⟩ = some (.int .i64 s.T.l) := HT.out.r 1 _ (by omega) rfl
          have b2 : wr.cell? ⟨w.heap.size + 2, 2, none⟩ = some (.int .i64 s.T.c) := HT.out.r 2 _ (by omega) rfl
          have b3 : wr.cell? ⟨w.heap.size + 2, 3, none⟩ = some (.bool s.T.r) := HT.out.r 3 _ (by omega) rfl
          have b4 : wr.cell? ⟨w.heap.size + 2, 4, none⟩ = some (.bool s.T.a) := HT.out.r 4 _ (by omega) rfl
          have b5 : wr.cell? ⟨w.heap.size + 2, 5, none⟩ = some (.bool s.T.s) := HT.out.r 5 _ (by omega) rfl
          have b6 : wr.cell? ⟨w.heap.size + 2, 6, none⟩ = some (.bool s.T.g) := HT.out.r 6 _ (by omega) rfl
          have b7 : wr.cell? ⟨w.heap.size + 2, 7, none⟩ = some ((.slice p1 np c1)) := HT.out.r 7 _ (by omega) rfl
          have z0 : wr.cell? ⟨w.heap.size + 1, 0, none⟩ = some (.slice none 0 0) := HZ.out.z 0 _ rfl
          have z1 : wr.cell? ⟨w.heap.size + 1, 1, none⟩ = some (.int .i64 0) := HZ.out.z 1 _ rfl
          have z2 : wr.cell? ⟨w.heap.size + 1, 2, none⟩ = some (.int .i64 0) := HZ.out.z 2 _ rfl
          have z3 : wr.cell? ⟨w.heap.size + 1, 3, none⟩ = some (.bool false) := HZ.out.z 3 _ rfl
          have z4 : wr.cell? ⟨w.heap.size + 1, 4, none⟩ = some (.bool false) := HZ.out.z 4 _ rfl
          have z5 : wr.cell? ⟨w.heap.size + 1, 5, none⟩ = some (.bool false) := HZ.out.z 5 _ rfl
          have z6 : wr.cell? ⟨w.heap.size + 1, 6, none⟩ = some (.bool false) := HZ.out.z 6 _ rfl
          have z7 : wr.cell? ⟨w.heap.size + 1, 7, none⟩ = some (.slice none 0 0) := HZ.out.z 7 _ rfl
          have z8 : wr.cell? ⟨w.heap.size + 1, 8, none⟩ = some (.slice none 0 0) := HZ.out.z 8 _ rfl
          have f0 := HZ.out.f 0 (by omega)
          have f1 := HZ.out.f 1 (by omega)
          have f2 := HZ.out.f 2 (by omega)
          have f3 := HZ.out.f 3 (by omega)
          have f4 := HZ.out.f 4 (by omega)
          have f5 := HZ.out.f 5 (by omega)
          have f6 := HZ.out.f 6 (by omega)
          have f7 := HZ.out.f 7 (by omega)
          have f8 := HZ.out.f 8 (by omega)
          have hzl := klt z0
          have HS := Lib.hid (show sec = s.sec.map (fun b => bits .xor .u8 b by_) from by have := HS.out; rw [List.take_of_length_le (by have := HN.out.2; omega)] at this; exact this)
          have HIns := Lib.hid (show ∀ Z, Fr (fun q => q = w.heap.size + 1) wr Z → InS Z.heap.size Z (.slice pa nc ca) (.slice p1 np c1) (.slice pb nb cb) (turnS by_ s) ∧ Below w.heap.size w Z from fun Z hf => by
            have hTZ := HT.out.fr1 hf
            refine ⟨?_, hTZ.bel⟩
            have := hTZ.ins (s := turnS by_ s) HIn.out.p.1 (by unfold turnS; rw [HE.out, HS.out]) ?_ ?_ HIn.out.p.2 ?_
            · rw [HNc.out, HNb.out] at this; exact this
            · rw [HNc.out]; have := congrArg List.length HE.out; simp only [List.length_map] at this; rw [HNc.out, HN.out.1] at this; omega
            · intro x hx
              have hm : x.1 ∈ s.cs.map (turnC by_) := by rw [← HE.out]; exact List.mem_map_of_mem hx
              obtain ⟨y, hy, e⟩ := List.mem_map.1 hm
              have hg := HIn.out.ck y hy
              rw [← e]
              refine ⟨hg.1, fun b hb => ?_, by unfold turnC; simpa using hg.2.2.1, hg.2.2.2⟩
              obtain ⟨q, hq', rfl⟩ := List.mem_map.1 hb
              exact (turn_swap (hg.2.1 q hq') hg.2.2.2 HBy.out).b
            · refine ⟨fun b hb => ?_, ?_⟩
              · rw [HS.out] at hb
                obtain ⟨q, hq', rfl⟩ := List.mem_map.1 hb
                exact xor_byte (HIn.out.s.2.1 q hq') HBy.out
              · rw [HS.out, List.length_map]; exact HIn.out.s.2.2)
          clear hnb hnc HT HZ
          go_wp2
          obtain ⟨Z, hZ⟩ : ∃ Z, Z = (((((((((wr.setCell ⟨w.heap.size + 1, 0, none⟩ (.slice pa nc ca)).setCell ⟨w.heap.size + 1, 1, none⟩ (.int .i64 s.T.l)).setCell ⟨w.heap.size + 1, 2, none⟩ (.int .i64 s.T.c)).setCell ⟨w.heap.size + 1, 3, none⟩ (.bool s.T.r)).setCell ⟨w.heap.size + 1, 4, none⟩ (.bool s.T.a)).setCell ⟨w.heap.size + 1, 5, none⟩ (.bool s.T.s)).setCell ⟨w.heap.size + 1, 6, none⟩ (.bool s.T.g)).setCell ⟨w.heap.size + 1, 7, none⟩ ((.slice p1 np c1))).setCell ⟨w.heap.size + 1, 8, none⟩ (.slice pb nb cb)) := ⟨_, rfl⟩
          have y0 : Z.cell? ⟨w.heap.size + 1, 0, none⟩ = some (.slice pa nc ca) := by rw [hZ]; go_simp; first | done | rfl
          have y1 : Z.cell? ⟨w.heap.size + 1, 1, none⟩ = some (.int .i64 s.T.l) := by rw [hZ]; go_simp; first | done | rfl
          have y2 : Z.cell? ⟨w.heap.size + 1, 2, none⟩ = some (.int .i64 s.T.c) := by rw [hZ]; go_simp; first | done | rfl
          have y3 : Z.cell? ⟨w.heap.size + 1, 3, none⟩ = some (.bool s.T.r) := by rw [hZ]; go_simp; first | done | rfl
          have y4 : Z.cell? ⟨w.heap.size + 1, 4, none⟩ = some (.bool s.T.a) := by rw [hZ]; go_simp; first | done | rfl
          have y5 : Z.cell? ⟨w.heap.size + 1, 5, none⟩ = some (.bool s.T.s) := by rw [hZ]; go_simp; first | done | rfl
          have y6 : Z.cell? ⟨w.heap.size + 1, 6, none⟩ = some (.bool s.T.g) := by rw [hZ]; go_simp; first | done | rfl
          have y7 : Z.cell? ⟨w.heap.size + 1, 7, none⟩ = some ((.slice p1 np c1)) := by rw [hZ]; go_simp; first | done | rfl
          have y8 : Z.cell? ⟨w.heap.size + 1, 8, none⟩ = some (.slice pb nb cb) := by rw [hZ]; go_simp; first | done | rfl
          have hFZ : Fr (fun q => q = w.heap.size + 1) wr Z := by rw [hZ]; exact ((((((((((Fr.refl (fun q => q = w.heap.size + 1) wr).setCell _ _ (fun _ => rfl)).setCell _ _ (fun _ => rfl)).setCell _ _ (fun _ => rfl)).setCell _ _ (fun _ => rfl)).setCell _ _ (fun _ => rfl)).setCell _ _ (fun _ => rfl)).setCell _ _ (fun _ => rfl)).setCell _ _ (fun _ => rfl)).setCell _ _ (fun _ => rfl))
          rw [← hZ]
          clear hZ z0 z1 z2 z3 z4 z5 z6 z7 z8 b0 b1 b2 b3 b4 b5 b6 b7 b8 q8
          refine bodyPost_ret (v := .agg #[.slice pa nc ca, .int .i64 s.T.l, .int .i64 s.T.c, .bool s.T.r, .bool s.T.a, .bool s.T.s, .bool s.T.g, (.slice p1 np c1), .slice pb nb cb]) (by simp [results, Tryz.results16, go_sem, y0, y1, y2, y3, y4, y5, y6, y7, y8] <;> first | done | rfl) rfl ⟨_, _, rfl, HIns.out _ hFZ⟩
end Go.Proofs.YtcnejgilmciljaaGreatDoor
