/-
  The document's bus: Write of its ports (gen13.py, off ports' texts).
  A timer as the document says it: what its registers are, what a cycle makes of it, and many.
-/
import Derived.Test.YtcnejgilmciljaaGreatDoorKind8
import Derived.Test.YtcnejgilmciljaaGreatDoorDbr13
import Derived.WalkKit
set_option linter.unusedSimpArgs false
set_option linter.unusedVariables false
namespace Go.Proofs.YtcnejgilmciljaaGreatDoor
open Go.RowKit Go.PlainAid

def WriteEndB (rb : Nat) (L : List Pt) (m : Value) (S : Po) (x y a b c d : Value) (reg v t cy : Int) (w : World) : Ending → World → Prop := fun e w' =>
  e = .returned (.tuple #[.int .i64 (writeE S reg t).1, .int .i64 (writeE S reg t).2]) ∧ ∃ a' b' c' d', Hq rb (rB L m S a b c d) (rB L m (wrPo S reg v t cy) a' b' c' d') w w' ∧ Db rb L m (wrPo S reg v t cy) x y a' b' c' d' w'
theorem Db.hq {rb : Nat} {L : List Pt} {m : Value} {S S' : Po} {x y a b c d a' b' c' d' : Value} {w u : World} (h : Db rb L m S x y a b c d w) (hq : Hq rb (rB L m S a b c d) (rB L m S' a' b' c' d') w u) (hp : S'.pub = S.pub) (hs : S'.sec = S.sec) : Db rb L m S' x y a' b' c' d' u :=
  ⟨hq.hold, by rw [hp]; exact h.p.hq hq (rB_off L m S a b c d 7 (by omega)), by rw [hs]; exact h.s.hq hq (rB_off L m S a b c d 8 (by omega))⟩
theorem writeEnd_noB {rb : Nat} {L : List Pt} {m : Value} {S : Po} {x y a b c d : Value} {reg v t cy U E : Int} {w w' : World} (h : writeE S reg t = (U, E)) (hP : wrPo S reg v t cy = S) (hD : Db rb L m S x y a b c d w) (hb : Below w.heap.size w w') :
    WriteEndB rb L m S x y a b c d reg v t cy w (.returned (.tuple #[.int .i64 U, .int .i64 E])) w' := by
  refine ⟨by rw [h], a, b, c, d, ?_⟩
  rw [hP]
  exact ⟨(Hq.refl hD.hold).below hD.hold hb, hD.below hb⟩
set_option maxRecDepth 100000 in
set_option maxHeartbeats 4000000 in
theorem writeb_bad (rb : Nat) (L : List Pt) (m : Value) (S : Po) (x y a b c d : Value) (reg v t cy : Int) (hr : ¬ (0 ≤ reg ∧ reg ≤ 4)) (w : World) (h : Db rb L m S x y a b c d w) :
    Calls Tryz.prog 43 #[.pointer (some ⟨rb, 7, none⟩), .int .i64 reg, .agg #[.int .u8 v, .int .u8 t], .int .i64 cy] w (WriteEndB rb L m S x y a b c d reg v t cy w) := by
  have HE := Lib.hid (show writeE S reg t = (0, 10) from by unfold writeE; rw [if_pos hr])
  have HP := Lib.hid (show wrPo S reg v t cy = S from by unfold wrPo; rw [HE.out, if_pos (by decide)])
  have HD := Lib.hid h
  have hd : decide (reg < 0) = true ∨ decide (reg < 0) = false ∧ decide (4 < reg) = true := by simp; omega
  clear h hr
  rcases hd with hd | ⟨hd, hd2⟩
  all_goals
    go_enter Tryz.func43, Tryz.ntmps43
    go_wp2
    go_ret2
    exact writeEnd_noB HE.out HP.out HD.out (by go_grown)
set_option maxRecDepth 100000 in
set_option maxHeartbeats 4000000 in
theorem writeb_alarm (rb : Nat) (L : List Pt) (m : Value) (S : Po) (x y a b c d : Value) (reg v t cy : Int) (hr : 0 ≤ reg ∧ reg ≤ 2) (ht : 0 < t) (w : World) (h : Db rb L m S x y a b c d w) :
    Calls Tryz.prog 43 #[.pointer (some ⟨rb, 7, none⟩), .int .i64 reg, .agg #[.int .u8 v, .int .u8 t], .int .i64 cy] w (WriteEndB rb L m S x y a b c d reg v t cy w) := by
  have HE := Lib.hid (show writeE S reg t = (4, 20) from by unfold writeE; rw [if_neg (by omega), if_pos ⟨hr.2, ht⟩])
  have HP := Lib.hid (show wrPo S reg v t cy = S from by unfold wrPo; rw [HE.out, if_pos (by decide)])
  have HD := Lib.hid h
  have d1 : decide (reg < 0) = false := by simp; omega
  have d2 : decide (4 < reg) = false := by simp; omega
  have d3 : decide (reg ≤ 2) = true := by simp; omega
  have d4 : decide (0 < t) = true := by simp; omega
  clear h hr ht
  go_enter Tryz.func43, Tryz.ntmps43
  go_wp2
  go_ret2
  exact writeEnd_noB HE.out HP.out HD.out (by go_grown)
set_option maxRecDepth 100000 in
set_option maxHeartbeats 4000000 in
theorem writeb_in (rb : Nat) (L : List Pt) (m : Value) (S : Po) (x y a b c d : Value) (reg v cy : Int) (hr : reg = 0 ∨ reg = 1) (w : World) (h : Db rb L m S x y a b c d w) :
    Calls Tryz.prog 43 #[.pointer (some ⟨rb, 7, none⟩), .int .i64 reg, .agg #[.int .u8 v, .int .u8 0], .int .i64 cy] w (WriteEndB rb L m S x y a b c d reg v 0 cy w) := by
  have HE := Lib.hid (show writeE S reg 0 = (0, 0) from by unfold writeE; rw [if_neg (by omega), if_neg (by omega), if_neg (by omega)])
  have HP := Lib.hid (show wrPo S reg v 0 cy = S from by unfold wrPo; rw [HE.out, if_neg (by decide), if_neg (by omega), if_neg (by omega), if_neg (by omega)])
  have HD := Lib.hid h
  clear h
  rcases hr with rfl | rfl
  all_goals
    go_enter Tryz.func43, Tryz.ntmps43
    go_wp2
    go_ret2
    exact writeEnd_noB HE.out HP.out HD.out (by go_grown)
set_option maxRecDepth 100000 in
set_option maxHeartbeats 4000000 in
theorem writeb_full (rb : Nat) (L : List Pt) (m : Value) (S : Po) (x y a b c d : Value) (reg v t cy : Int) (ht : reg = 2 → ¬ 0 < t) (hr : (reg = 2 ∧ 4096 ≤ S.out.length) ∨ (reg = 3 ∧ 4096 ≤ S.kept.length) ∨ (reg = 4 ∧ 4096 ≤ S.told.length)) (w : World) (h : Db rb L m S x y a b c d w) :
    Calls Tryz.prog 43 #[.pointer (some ⟨rb, 7, none⟩), .int .i64 reg, .agg #[.int .u8 v, .int .u8 t], .int .i64 cy] w (WriteEndB rb L m S x y a b c d reg v t cy w) := by
  have HE := Lib.hid (show writeE S reg t = (0, 18) from by unfold writeE; rw [if_neg (by omega), if_neg (by omega), if_pos hr])
  have HP := Lib.hid (show wrPo S reg v t cy = S from by unfold wrPo; rw [HE.out, if_pos (by decide)])
  have HD := Lib.hid h
  have hlt := h.hold.lt
  obtain ⟨⟨k2, o2⟩, ⟨k3, o3⟩, ⟨k4, o4⟩, k5, o5⟩ := h.hold.atB
  obtain ⟨p2, c2, rfl⟩ := own_form o2
  obtain ⟨p3, c3, rfl⟩ := own_form o3
  obtain ⟨p5, c5, rfl⟩ := own_form o5
  generalize S.out.length = n2 at *
  generalize S.kept.length = n3 at *
  generalize S.told.length = n5 at *
  clear h o2 o3 o4 o5 k4
  rcases hr with ⟨rfl, hn⟩ | ⟨rfl, hn⟩ | ⟨rfl, hn⟩
  · have d1 : decide (0 < t) = false := by simpa using ht rfl
    have hn' : (4096 : Int) ≤ (n2 : Int) := by omega
    clear ht hn
    go_enter Tryz.func43, Tryz.ntmps43
    go_wp2
    go_ret2
    exact writeEnd_noB HE.out HP.out HD.out (by go_grown)
  · have hn' : (4096 : Int) ≤ (n3 : Int) := by omega
    clear ht hn
    go_enter Tryz.func43, Tryz.ntmps43
    go_wp2
    go_ret2
    exact writeEnd_noB HE.out HP.out HD.out (by go_grown)
  · have hn' : (4096 : Int) ≤ (n5 : Int) := by omega
    clear ht hn
    go_enter Tryz.func43, Tryz.ntmps43
    go_wp2
    go_ret2
    exact writeEnd_noB HE.out HP.out HD.out (by go_grown)
/-- What goes out: one more. -/
theorem hold_outB {rb : Nat} {L : List Pt} {m : Value} {S : Po} {a b c d a' : Value} {w U w' : World} {v : Int} (h : Hold rb (rB L m S a b c d) w) (hb : Below w.heap.size w U) (ho : w'.ownsRow 0 5 1 a' (S.out.length + 1) (S.out.flatMap bE ++ [.int .u8 v])) (hg : Grew U w' a a') :
    Hq rb (rB L m S a b c d) (rB L m ⟨S.pub, S.sec, S.out ++ [v], S.kept, S.cyc, S.told⟩ a' b c d) w (w'.setCell ⟨rb, 9, none⟩ a') := by
  have := Hq.app h hb (i := 1) rfl ho (Nat.le_succ _) (fun j hj => List.getElem?_append_left (by rw [flat_len8 bE_len]; exact hj)) hg
  simpa [rB, bE] using this
theorem hold_keptB {rb : Nat} {L : List Pt} {m : Value} {S : Po} {a b c d a' : Value} {w U w' : World} {v t : Int} (h : Hold rb (rB L m S a b c d) w) (hb : Below w.heap.size w U) (ho : w'.ownsRow 0 49 2 a' (S.kept.length + 1) (S.kept.flatMap kE ++ [.int .u8 v, .int .u8 t])) (hg : Grew U w' b a') :
    Hq rb (rB L m S a b c d) (rB L m ⟨S.pub, S.sec, S.out, S.kept ++ [(v, t)], S.cyc, S.told⟩ a a' c d) w (w'.setCell ⟨rb, 10, none⟩ a') := by
  have := Hq.app h hb (i := 2) rfl ho (Nat.le_succ _) (fun j hj => List.getElem?_append_left (by rw [flat_len8 kE_len]; exact hj)) hg
  simpa [rB, kE] using this
theorem hold_cycB {rb : Nat} {L : List Pt} {m : Value} {S : Po} {a b c d a' : Value} {w U w' : World} {v : Int} (h : Hold rb (rB L m S a b c d) w) (hb : Below w.heap.size w U) (ho : w'.ownsRow 0 3 1 a' (S.cyc.length + 1) (S.cyc.flatMap cE ++ [.int .i64 v])) (hg : Grew U w' c a') :
    Hq rb (rB L m S a b c d) (rB L m ⟨S.pub, S.sec, S.out, S.kept, S.cyc ++ [v], S.told⟩ a b a' d) w (w'.setCell ⟨rb, 11, none⟩ a') := by
  have := Hq.app h hb (i := 3) rfl ho (Nat.le_succ _) (fun j hj => List.getElem?_append_left (by rw [flat_len8 cE_len]; exact hj)) hg
  simpa [rB, cE] using this
theorem hold_toldB {rb : Nat} {L : List Pt} {m : Value} {S : Po} {a b c d a' : Value} {w U w' : World} {v : Int} (h : Hold rb (rB L m S a b c d) w) (hb : Below w.heap.size w U) (ho : w'.ownsRow 0 5 1 a' (S.told.length + 1) (S.told.flatMap bE ++ [.int .u8 v])) (hg : Grew U w' d a') :
    Hq rb (rB L m S a b c d) (rB L m ⟨S.pub, S.sec, S.out, S.kept, S.cyc, S.told ++ [v]⟩ a b c a') w (w'.setCell ⟨rb, 12, none⟩ a') := by
  have := Hq.app h hb (i := 4) rfl ho (Nat.le_succ _) (fun j hj => List.getElem?_append_left (by rw [flat_len8 bE_len]; exact hj)) hg
  simpa [rB, bE] using this
theorem writeEnd_okB {rb : Nat} {L : List Pt} {m : Value} {S S' : Po} {x y a b c d a' b' c' d' : Value} {reg v t cy : Int} {w w' : World} (h : writeE S reg t = (0, 0)) (hP : wrPo S reg v t cy = S') (hD : Db rb L m S x y a b c d w) (hq : Hq rb (rB L m S a b c d) (rB L m S' a' b' c' d') w w') (hp : S'.pub = S.pub) (hs : S'.sec = S.sec) :
    WriteEndB rb L m S x y a b c d reg v t cy w (.returned (.tuple #[.int .i64 0, .int .i64 0])) w' := by
  refine ⟨by rw [h], a', b', c', d', ?_⟩
  rw [hP]
  exact ⟨hq, hD.hq hq hp hs⟩
set_option maxRecDepth 100000 in
set_option maxHeartbeats 4000000 in
theorem writeb_out (rb : Nat) (L : List Pt) (m : Value) (S : Po) (x y a b c d : Value) (v cy : Int) (hl : S.out.length < 4096) (w : World) (h : Db rb L m S x y a b c d w) :
    Calls Tryz.prog 43 #[.pointer (some ⟨rb, 7, none⟩), .int .i64 2, .agg #[.int .u8 v, .int .u8 0], .int .i64 cy] w (WriteEndB rb L m S x y a b c d 2 v 0 cy w) := by
  have HE := Lib.hid (show writeE S 2 0 = (0, 0) from by unfold writeE; rw [if_neg (by omega), if_neg (by omega), if_neg (by omega)])
  have HP := Lib.hid (show wrPo S 2 v 0 cy = ⟨S.pub, S.sec, S.out ++ [v], S.kept, S.cyc, S.told⟩ from by unfold wrPo; rw [HE.out, if_neg (by decide), if_pos rfl])
  have HD := Lib.hid h
  have hlt := h.hold.lt
  obtain ⟨⟨k2, o2⟩, -⟩ := h.hold.atB
  have f2 := (h.hold.cell 1 _ rfl).2
  dsimp only at f2
  obtain ⟨p2, c2, rfl⟩ := own_form o2
  obtain ⟨n2, hn2⟩ : ∃ n, S.out.length = n := ⟨_, rfl⟩
  have HO := Lib.hid o2
  rw [hn2] at k2 hl HO
  have HN := Lib.hid hn2
  have hn' : ¬ (4096 : Int) ≤ (n2 : Int) := by omega
  obtain ⟨i0, hi, hz0, hz1, hz2⟩ := info_parts Tryz.infoU8
  clear h o2 hn2
  have hp_0 := k2
  have fp_0 := f2
  clear k2 f2
  go_enter Tryz.func43, Tryz.ntmps43
  have HDo := Lib.hid (HD.out.hold.own 1 _ rfl).2
  have HBw := Lib.hid (Below.refl w.heap.size w)
  go_wp2_with fail
  go_region_law (first
    | (refine step_append_f rfl (.tmp 64) (.tmp 67) 25 rfl 5 i0 _ 1 1 Tryz.underlying25 hi hz0 hz1 hz2 rfl (by decide) (.slice p2 n2 c2) n2 (S.out.flatMap bE) (by simp [Act.eval, Act.put]) (Below.ownRow (by go_grown) HO.out) ⟨_, 0, none⟩ 1 1 [.int .u8 v] (by simp [Act.eval, Act.put] <;> rfl) rfl (one_at _ _) (by intro u hu; simp at hu; subst hu; rfl) (by unfold maxLen; omega) (by omega) ?_
       intro v' w' hown' hg
       obtain ⟨p', cp', rfl⟩ := own_form hown'
       have hcs : w'.cell? ⟨rb, 9, none⟩ = some (.slice p2 n2 c2) := hg.cell (by simpa [rB, HN.out] using HDo.out) (by go_simp)
       have hfs : w'.frozen? ⟨rb, 9, none⟩ = false := hg.frozen (by simpa [rB, HN.out] using HDo.out) (by simp; omega) (by go_simp)
       have HG := Lib.hid (And.intro (hg.base (N := w.heap.size) (w := w) (by go_grown)) (And.intro hown' hg))
       clear hown' hg))
  all_goals
    go_wp2
    go_ret2
    refine writeEnd_okB HE.out HP.out HD.out (hold_outB HD.out.hold HG.out.1 ?_ ?_) rfl rfl
    · rw [HN.out]; exact HG.out.2.1
    · rw [HN.out]; exact HG.out.2.2
set_option maxRecDepth 100000 in
set_option maxHeartbeats 4000000 in
theorem writeb_kept (rb : Nat) (L : List Pt) (m : Value) (S : Po) (x y a b c d : Value) (v t cy : Int) (hl : S.kept.length < 4096) (w : World) (h : Db rb L m S x y a b c d w) :
    Calls Tryz.prog 43 #[.pointer (some ⟨rb, 7, none⟩), .int .i64 3, .agg #[.int .u8 v, .int .u8 t], .int .i64 cy] w (WriteEndB rb L m S x y a b c d 3 v t cy w) := by
  have HE := Lib.hid (show writeE S 3 t = (0, 0) from by unfold writeE; rw [if_neg (by omega), if_neg (by omega), if_neg (by omega)])
  have HP := Lib.hid (show wrPo S 3 v t cy = ⟨S.pub, S.sec, S.out, S.kept ++ [(v, t)], S.cyc, S.told⟩ from by unfold wrPo; rw [HE.out, if_neg (by decide), if_neg (by decide), if_pos rfl])
  have HD := Lib.hid h
  have hlt := h.hold.lt
  obtain ⟨-, ⟨k2, o2⟩, -⟩ := h.hold.atB
  have f2 := (h.hold.cell 2 _ rfl).2
  dsimp only at f2
  obtain ⟨p2, c2, rfl⟩ := own_form o2
  obtain ⟨n2, hn2⟩ : ∃ n, S.kept.length = n := ⟨_, rfl⟩
  have HO := Lib.hid o2
  rw [hn2] at k2 hl HO
  have HN := Lib.hid hn2
  have hn' : ¬ (4096 : Int) ≤ (n2 : Int) := by omega
  obtain ⟨i0, hi, hz0, hz1, hz2⟩ := info_parts Tryz.infoBy
  clear h o2 hn2
  have hp_0 := k2
  have fp_0 := f2
  clear k2 f2
  go_enter Tryz.func43, Tryz.ntmps43
  have HDo := Lib.hid (HD.out.hold.own 2 _ rfl).2
  have HBw := Lib.hid (Below.refl w.heap.size w)
  go_wp2_with fail
  go_region_law (first
    | (refine step_append_f rfl (.tmp 77) (.tmp 79) 40 rfl 49 i0 _ 2 2 Tryz.underlying40 hi hz0 hz1 hz2 rfl (by decide) (.slice p2 n2 c2) n2 (S.kept.flatMap kE) (by simp [Act.eval, Act.put]) (Below.ownRow (by go_grown) HO.out) ⟨_, 0, none⟩ 1 1 [.int .u8 v, .int .u8 t] (by simp [Act.eval, Act.put] <;> rfl) rfl (two_at _ _ _) (by intro u hu; simp at hu; rcases hu with rfl | rfl <;> rfl) (by unfold maxLen; omega) (by omega) ?_
       intro v' w' hown' hg
       obtain ⟨p', cp', rfl⟩ := own_form hown'
       have hcs : w'.cell? ⟨rb, 10, none⟩ = some (.slice p2 n2 c2) := hg.cell (by simpa [rB, HN.out] using HDo.out) (by go_simp)
       have hfs : w'.frozen? ⟨rb, 10, none⟩ = false := hg.frozen (by simpa [rB, HN.out] using HDo.out) (by simp; omega) (by go_simp)
       have HG := Lib.hid (And.intro (hg.base (N := w.heap.size) (w := w) (by go_grown)) (And.intro hown' hg))
       clear hown' hg))
  all_goals
    go_wp2
    go_ret2
    refine writeEnd_okB HE.out HP.out HD.out (hold_keptB HD.out.hold HG.out.1 ?_ ?_) rfl rfl
    · rw [HN.out]; exact HG.out.2.1
    · rw [HN.out]; exact HG.out.2.2
set_option maxRecDepth 100000 in
set_option maxHeartbeats 4000000 in
theorem writeb_told (rb : Nat) (L : List Pt) (m : Value) (S : Po) (x y a b c d : Value) (v t cy : Int) (hl : S.told.length < 4096) (hl2 : S.cyc.length ≤ 100000) (w : World) (h : Db rb L m S x y a b c d w) :
    Calls Tryz.prog 43 #[.pointer (some ⟨rb, 7, none⟩), .int .i64 4, .agg #[.int .u8 v, .int .u8 t], .int .i64 cy] w (WriteEndB rb L m S x y a b c d 4 v t cy w) := by
  have HE := Lib.hid (show writeE S 4 t = (0, 0) from by unfold writeE; rw [if_neg (by omega), if_neg (by omega), if_neg (by omega)])
  have HP := Lib.hid (show wrPo S 4 v t cy = ⟨S.pub, S.sec, S.out, S.kept, S.cyc ++ [cy], S.told ++ [v]⟩ from by unfold wrPo; rw [HE.out, if_neg (by decide), if_neg (by decide), if_neg (by decide), if_pos rfl])
  have HD := Lib.hid h
  have hlt := h.hold.lt
  obtain ⟨-, -, ⟨k4, o4⟩, k5, o5⟩ := h.hold.atB
  have f5 := (h.hold.cell 4 _ rfl).2
  have f4 := (h.hold.cell 3 _ rfl).2
  dsimp only at f5 f4
  obtain ⟨p5, c5, rfl⟩ := own_form o5
  obtain ⟨p4, c4, rfl⟩ := own_form o4
  obtain ⟨n5, hn5⟩ : ∃ n, S.told.length = n := ⟨_, rfl⟩
  obtain ⟨n4, hn4⟩ : ∃ n, S.cyc.length = n := ⟨_, rfl⟩
  have HO := Lib.hid o5
  rw [hn5] at k5 hl HO
  rw [hn4] at k4 hl2
  have HN := Lib.hid hn5
  have HN4 := Lib.hid hn4
  have hn' : ¬ (4096 : Int) ≤ (n5 : Int) := by omega
  obtain ⟨i0, hi, hz0, hz1, hz2⟩ := info_parts Tryz.infoU8
  obtain ⟨i1, hi', hz0', hz1', hz2'⟩ := info_parts Tryz.infoInt
  clear h o4 o5 hn5 hn4
  have HDo := Lib.hid (HD.out.hold.own 4 _ rfl).2
  go_enter Tryz.func43, Tryz.ntmps43
  go_upto_region 13 with fail
  go_cut [] (fun wx => ∃ p' k', Hid (Hq rb (rB L m S a b (.slice p4 S.cyc.length c4) (.slice p5 S.told.length c5)) (rB L m ⟨S.pub, S.sec, S.out, S.kept, S.cyc, S.told ++ [v]⟩ a b (.slice p4 S.cyc.length c4) (.slice p' (n5 + 1) k')) w wx) ∧
    wx.cell? ⟨rb, 11, none⟩ = some (.slice p4 n4 c4) ∧ wx.frozen? ⟨rb, 11, none⟩ = false)
  case first =>
    go_region_law (first
      | (refine step_append_f rfl (.tmp 89) (.tmp 92) 25 rfl 5 i0 _ 1 1 Tryz.underlying25 hi hz0 hz1 hz2 rfl (by decide) (.slice p5 n5 c5) n5 (S.told.flatMap bE) (by simp [Act.eval, Act.put]) (Below.ownRow (by go_grown) HO.out) ⟨_, 0, none⟩ 1 1 [.int .u8 v] (by simp [Act.eval, Act.put] <;> rfl) rfl (one_at _ _) (by intro u hu; simp at hu; subst hu; rfl) (by unfold maxLen; omega) (by omega) ?_
         intro v' w' hown' hg
         obtain ⟨p', cp', rfl⟩ := own_form hown'
         have hcs : w'.cell? ⟨rb, 12, none⟩ = some (.slice p5 n5 c5) := hg.cell (by simpa [rB, HN.out] using HDo.out) (by go_simp)
         have hfs : w'.frozen? ⟨rb, 12, none⟩ = false := hg.frozen (by simpa [rB, HN.out] using HDo.out) (by simp; omega) (by go_simp)
         have hcs4 : w'.cell? ⟨rb, 11, none⟩ = some (.slice p4 n4 c4) := hg.cell (by simpa [rB, HN.out] using HDo.out) (by go_simp)
         have hfs4 : w'.frozen? ⟨rb, 11, none⟩ = false := hg.frozen (by simpa [rB, HN.out] using HDo.out) (by simp; omega) (by go_simp)
         have hlt' : rb < w'.heap.size := klt hcs
         have HQ := Lib.hid (hold_toldB HD.out.hold (hg.base (N := w.heap.size) (w := w) (by go_grown)) (by rw [HN.out]; exact hown') (by rw [HN.out]; exact hg))
         clear hown' hg))
    all_goals
      go_wp2_with fail
      go_meet
      exact ⟨p', cp', HQ, by go_simp, by go_simp⟩
  case rest =>
    obtain ⟨p', k', HQ, hcs4, hfs4⟩ := hcut
    have hlt' : rb < wc.heap.size := klt hcs4
    have HO4 := Lib.hid (show wc.ownsRow 0 3 1 (.slice p4 n4 c4) n4 (S.cyc.flatMap cE) from by have := (HQ.out.hold.own 3 _ rfl).1; dsimp only at this; rw [HN4.out] at this; exact this)
    have HDo4 := Lib.hid (HQ.out.hold.own 3 _ rfl).2
    go_wp2_with (at_builtin; refine wpList_append_f _ rfl _ _ 41 rfl 3 i1 _ 1 8 Tryz.underlying41 hi' hz0' hz1' hz2' rfl (by decide) _ n4 (S.cyc.flatMap cE) rfl ?c0 ⟨_, 0, none⟩ 1 1 [.int .i64 cy] rfl rfl ?c1 ?c2 ?c3 ?c4 ?_)
    case c0 => exact Below.ownRow ((Below.refl _ _).alloc (Nat.le_refl _) _) HO4.out
    (try case c1 => exact one_at _ _)
    case c2 => first | rfl | (intro u hu; simp at hu; subst hu; rfl)
    case c3 => unfold maxLen; omega
    case c4 => omega
    intro v2 w2 hown2 hg2
    obtain ⟨p'', cp'', rfl⟩ := own_form hown2
    have hcs2 : w2.cell? ⟨rb, 11, none⟩ = some (.slice p4 n4 c4) := hg2.cell (by simpa [rB, HN4.out] using HDo4.out) (by go_simp)
    have hfs2 : w2.frozen? ⟨rb, 11, none⟩ = false := hg2.frozen (by simpa [rB, HN4.out] using HDo4.out) (by simp; omega) (by go_simp)
    have HQ2 := Lib.hid (Hq.trans HD.out.hold HQ.out (hold_cycB HQ.out.hold (hg2.base ((Below.refl _ _).alloc (Nat.le_refl _) _)) (by (try dsimp only); rw [HN4.out]; exact hown2) (by (try dsimp only); rw [HN4.out]; exact hg2)))
    clear hown2 hg2 hcs4 hfs4
    go_wp2
    go_ret2
    exact writeEnd_okB HE.out HP.out HD.out HQ2.out rfl rfl
/-- What Write asks of ports: the log's two halves are of one length, and short. -/
theorem writeb_c (rb : Nat) (L : List Pt) (m : Value) (S : Po) (x y a b c d : Value) (reg v t cy : Int) (ht : 0 ≤ t ∧ t ≤ 255) (hl : S.cyc.length ≤ 100000) (w : World) (h : Db rb L m S x y a b c d w) :
    Calls Tryz.prog 43 #[.pointer (some ⟨rb, 7, none⟩), .int .i64 reg, .agg #[.int .u8 v, .int .u8 t], .int .i64 cy] w (WriteEndB rb L m S x y a b c d reg v t cy w) := by
  by_cases hr : 0 ≤ reg ∧ reg ≤ 4
  · by_cases ha : reg ≤ 2 ∧ 0 < t
    · exact writeb_alarm rb L m S x y a b c d reg v t cy ⟨hr.1, ha.1⟩ ha.2 w h
    · by_cases hf : (reg = 2 ∧ 4096 ≤ S.out.length) ∨ (reg = 3 ∧ 4096 ≤ S.kept.length) ∨ (reg = 4 ∧ 4096 ≤ S.told.length)
      · exact writeb_full rb L m S x y a b c d reg v t cy (fun e h0 => ha ⟨by omega, h0⟩) hf w h
      · rcases (show reg = 0 ∨ reg = 1 ∨ reg = 2 ∨ reg = 3 ∨ reg = 4 by omega) with e | e | e | e | e
        · obtain rfl : t = 0 := by omega
          exact writeb_in rb L m S x y a b c d reg v cy (.inl e) w h
        · obtain rfl : t = 0 := by omega
          exact writeb_in rb L m S x y a b c d reg v cy (.inr e) w h
        · obtain rfl : t = 0 := by omega
          subst e
          exact writeb_out rb L m S x y a b c d v cy (by omega) w h
        · subst e
          exact writeb_kept rb L m S x y a b c d v t cy (by omega) w h
        · subst e
          exact writeb_told rb L m S x y a b c d v t cy (by omega) hl w h
  · exact writeb_bad rb L m S x y a b c d reg v t cy hr w h

end Go.Proofs.YtcnejgilmciljaaGreatDoor
set_option linter.unusedSimpArgs false
set_option linter.unusedVariables false
namespace Go.Proofs.YtcnejgilmciljaaGreatDoor

/-- A timer: Latch, Count, Runs, Again, Asks, Rings. -/
structure Tm where
  l : Int
  c : Int
  r : Bool
  a : Bool
  s : Bool
  g : Bool
def Tm.May (x : Tm) : Prop := (0 ≤ x.l ∧ x.l < 65536) ∧ 0 ≤ x.c ∧ x.c < 65536
def mayT (x : Tm) : Bool := decide (0 ≤ x.l) && decide (x.l < 65536) && decide (0 ≤ x.c) && decide (x.c < 65536)
theorem mayT_iff (x : Tm) : mayT x = true ↔ x.May := by
  unfold mayT Tm.May
  simp only [Bool.and_eq_true, decide_eq_true_eq, and_assoc]
theorem mayT_not (x : Tm) (h : mayT x = false) : ¬ x.May := fun hm => by
  rw [(mayT_iff x).2 hm] at h; cases h
/-- A cycle. -/
def tickT (x : Tm) : Tm :=
  if x.r = true then (if 0 < x.c then ⟨x.l, x.c - 1, x.r, x.a, x.s, x.g⟩ else if x.a = true then ⟨x.l, x.l, x.r, x.a, x.s, true⟩ else ⟨x.l, x.c, false, x.a, x.s, true⟩) else x
def ticks : Nat → Tm → Tm
  | 0, x => x
  | n + 1, x => ticks n (tickT x)
theorem ticks_zero (x : Tm) : ticks 0 x = x := rfl
theorem ticks_succ (n : Nat) (x : Tm) : ticks (n + 1) x = ticks n (tickT x) := rfl
theorem ticks_add (n : Nat) : ∀ (m : Nat) (x : Tm), ticks (m + n) x = ticks n (ticks m x)
  | 0, x => by rw [Nat.zero_add]; rfl
  | m + 1, x => by
    rw [show m + 1 + n = m + n + 1 by omega, ticks_succ, ticks_succ]
    exact ticks_add n m (tickT x)
theorem ticks_last (n : Nat) (x : Tm) : ticks (n + 1) x = tickT (ticks n x) := ticks_add 1 n x
theorem tickT_l (x : Tm) : (tickT x).l = x.l := by
  unfold tickT; split
  · split
    · rfl
    · split <;> rfl
  · rfl
theorem ticks_l : ∀ (n : Nat) (x : Tm), (ticks n x).l = x.l
  | 0, x => rfl
  | n + 1, x => (ticks_l n (tickT x)).trans (tickT_l x)
theorem tickT_may (x : Tm) (h : x.May) : (tickT x).May := by
  obtain ⟨h1, h2⟩ := h
  unfold tickT Tm.May; split
  · split
    · dsimp only; omega
    · split <;> (dsimp only; omega)
  · omega
theorem ticks_may : ∀ (n : Nat) (x : Tm), x.May → (ticks n x).May
  | 0, x, h => h
  | n + 1, x, h => ticks_may n (tickT x) (tickT_may x h)
/-- One that stands stays so. -/
theorem tickT_still (x : Tm) (h : x.r = false) : tickT x = x := by
  unfold tickT; rw [if_neg (by rw [h]; decide)]
theorem ticks_still : ∀ (n : Nat) (x : Tm), x.r = false → ticks n x = x
  | 0, x, _ => rfl
  | n + 1, x, h => by rw [ticks_succ, tickT_still x h]; exact ticks_still n x h
/-- One that runs counts down. -/
theorem ticks_down : ∀ (k : Nat) (x : Tm), x.r = true → (k : Int) ≤ x.c → ticks k x = ⟨x.l, x.c - k, x.r, x.a, x.s, x.g⟩
  | 0, x, _, _ => by rw [ticks_zero, show x.c - ((0 : Nat) : Int) = x.c by omega]
  | k + 1, x, h, hk => by
    have e : tickT x = ⟨x.l, x.c - 1, x.r, x.a, x.s, x.g⟩ := by unfold tickT; rw [if_pos h, if_pos (by omega)]
    rw [ticks_succ, e, ticks_down k ⟨x.l, x.c - 1, x.r, x.a, x.s, x.g⟩ h (by dsimp only; omega)]
    dsimp only
    rw [show x.c - 1 - (k : Int) = x.c - ((k + 1 : Nat) : Int) by omega]
/-- It rings. -/
def ringT (x : Tm) : Tm := if x.a = true then ⟨x.l, x.l, x.r, x.a, x.s, true⟩ else ⟨x.l, 0, false, x.a, x.s, true⟩
theorem ticks_ring (x : Tm) (h : x.r = true) (hc : 0 ≤ x.c) : ticks (x.c.toNat + 1) x = ringT x := by
  rw [ticks_last, ticks_down x.c.toNat x h (by omega), show x.c - (x.c.toNat : Int) = 0 by omega]
  unfold tickT ringT
  dsimp only
  rw [if_pos h, if_neg (by omega)]
theorem tickT_zero (x : Tm) (h : x.r = true) : tickT ⟨x.l, 0, x.r, x.a, x.s, x.g⟩ = ringT x := by
  unfold tickT ringT
  dsimp only
  rw [if_pos h, if_neg (by omega)]
/-- Once round. -/
theorem ticks_round (x : Tm) (h : x.r = true) (ha : x.a = true) (hg : x.g = true) (hc : x.c = x.l) (hl : 0 ≤ x.l) : ticks (x.l.toNat + 1) x = x := by
  have := ticks_ring x h (by omega)
  rw [hc] at this
  rw [this]
  unfold ringT
  rw [if_pos ha]
  obtain ⟨l, c, r, a, s, g⟩ := x
  dsimp only at *
  rw [hc, hg]
theorem ticks_rounds (x : Tm) (h : x.r = true) (ha : x.a = true) (hg : x.g = true) (hc : x.c = x.l) (hl : 0 ≤ x.l) : ∀ q : Nat, ticks ((x.l.toNat + 1) * q) x = x
  | 0 => by rw [Nat.mul_zero]; rfl
  | q + 1 => by rw [Nat.mul_succ, ticks_add, ticks_rounds x h ha hg hc hl q]; exact ticks_round x h ha hg hc hl
theorem ticks_mod (x : Tm) (h : x.r = true) (ha : x.a = true) (hg : x.g = true) (hc : x.c = x.l) (hl : 0 ≤ x.l) (n : Nat) : ticks n x = ticks (n % (x.l.toNat + 1)) x := by
  conv => lhs; rw [← Nat.div_add_mod n (x.l.toNat + 1)]
  rw [ticks_add, ticks_rounds x h ha hg hc hl]
/-- Many cycles. -/
def afterT (x : Tm) (n : Int) : Tm := ticks n.toNat x
theorem afterT_zero (x : Tm) : afterT x 0 = x := rfl
theorem afterT_add (x : Tm) (n m : Int) (hn : 0 ≤ n) (hm : 0 ≤ m) : afterT x (n + m) = afterT (afterT x n) m := by
  unfold afterT
  rw [show (n + m).toNat = n.toNat + m.toNat by omega, ticks_add]
theorem afterT_may (x : Tm) (n : Int) (h : x.May) : (afterT x n).May := ticks_may _ x h
theorem afterT_still (x : Tm) (n : Int) (h : x.r = false) : afterT x n = x := ticks_still _ x h
theorem afterT_down (x : Tm) (n : Int) (h : x.r = true) (h0 : 0 ≤ n) (hn : n ≤ x.c) : afterT x n = ⟨x.l, x.c - n, x.r, x.a, x.s, x.g⟩ := by
  unfold afterT
  rw [ticks_down n.toNat x h (by omega), show (n.toNat : Int) = n by omega]
theorem toNat_mod (a b : Int) (ha : 0 ≤ a) (hb : 0 ≤ b) : (a % (b + 1)).toNat = a.toNat % (b.toNat + 1) := by
  obtain ⟨m, rfl⟩ : ∃ m : Nat, a = (m : Int) := ⟨a.toNat, by omega⟩
  obtain ⟨k, rfl⟩ : ∃ k : Nat, b = (k : Int) := ⟨b.toNat, by omega⟩
  rw [Int.toNat_natCast, Int.toNat_natCast, show (k : Int) + 1 = ((k + 1 : Nat) : Int) from rfl, ← Int.natCast_emod, Int.toNat_natCast]
/-- Past where it rings: what goes round only is left away. -/
theorem afterT_past (x : Tm) (n : Int) (h : x.r = true) (hm : x.May) (hn : x.c < n) : afterT x n = afterT (ringT x) ((n - (x.c + 1)) % (x.l + 1)) := by
  obtain ⟨h1, h2⟩ := hm
  have e : afterT x n = ticks (n - (x.c + 1)).toNat (ringT x) := by
    unfold afterT
    rw [show n.toNat = (x.c.toNat + 1) + (n - (x.c + 1)).toNat by omega, ticks_add, ticks_ring x h h2.1]
  rw [e]
  unfold afterT
  by_cases ha : x.a = true
  · have hr : ringT x = ⟨x.l, x.l, x.r, x.a, x.s, true⟩ := by unfold ringT; rw [if_pos ha]
    rw [hr, toNat_mod _ _ (by omega) h1.1]
    exact ticks_mod ⟨x.l, x.l, x.r, x.a, x.s, true⟩ h ha rfl rfl h1.1 _
  · have hr : ringT x = ⟨x.l, 0, false, x.a, x.s, true⟩ := by unfold ringT; rw [if_neg ha]
    rw [hr, ticks_still _ _ rfl, ticks_still _ _ rfl]
theorem ringT_may (x : Tm) (h : x.May) : (ringT x).May := by
  obtain ⟨h1, h2⟩ := h
  unfold ringT Tm.May; split <;> (dsimp only; omega)
theorem ringT_l (x : Tm) : (ringT x).l = x.l := by unfold ringT; split <;> rfl
theorem ringT_c (x : Tm) (h : (ringT x).r = true) : (ringT x).c = x.l := by
  revert h; unfold ringT; split
  · intro _; rfl
  · intro h; cases h
/-- The registers. -/
def ctrlT (r a s : Bool) : Int := (if r then 1 else 0) + (if a then 2 else 0) + (if s then 4 else 0)
def readT (x : Tm) (reg : Int) : Int :=
  if reg = 0 then x.c % 256 else if reg = 1 then x.c / 256 else if reg = 2 then ctrlT x.r x.a x.s else if reg = 3 then (if x.g then 128 else 0) else 0
def onT (v : Int) (k : Int) : Bool := v / k % 2 == 1
def ctlT (x : Tm) (v : Int) : Tm := ⟨x.l, if onT v 1 then x.l else x.c, onT v 1, onT v 2, onT v 4, x.g⟩
def writeT (x : Tm) (reg v : Int) : Tm :=
  if reg = 0 then ⟨x.l / 256 * 256 + v, x.c, x.r, x.a, x.s, x.g⟩ else if reg = 1 then ⟨x.l % 256 + 256 * v, x.c, x.r, x.a, x.s, x.g⟩ else if reg = 2 then ctlT x v else if reg = 3 then ⟨x.l, x.c, x.r, x.a, x.s, false⟩ else x
def regE (reg : Int) : Int := if 0 ≤ reg ∧ reg ≤ 3 then 0 else 10
theorem writeT_may (x : Tm) (reg v : Int) (h : x.May) (hv : 0 ≤ v ∧ v ≤ 255) : (writeT x reg v).May := by
  obtain ⟨h1, h2⟩ := h
  unfold writeT
  split
  · unfold Tm.May; dsimp only; omega
  · split
    · unfold Tm.May; dsimp only; omega
    · split
      · unfold ctlT Tm.May; dsimp only; split <;> omega
      · split
        · exact ⟨h1, h2⟩
        · exact ⟨h1, h2⟩
theorem readT_byte (x : Tm) (reg : Int) (h : x.May) : 0 ≤ readT x reg ∧ readT x reg ≤ 255 := by
  obtain ⟨h1, h2⟩ := h
  unfold readT
  split
  · omega
  · split
    · omega
    · split
      · unfold ctrlT; cases x.r <;> cases x.a <;> cases x.s <;> decide
      · split
        · cases x.g <;> decide
        · decide
theorem reg_cases (reg : Int) : reg = 0 ∨ reg = 1 ∨ reg = 2 ∨ reg = 3 ∨ (reg ≠ 0 ∧ reg ≠ 1 ∧ reg ≠ 2 ∧ reg ≠ 3) := by omega
end Go.Proofs.YtcnejgilmciljaaGreatDoor
