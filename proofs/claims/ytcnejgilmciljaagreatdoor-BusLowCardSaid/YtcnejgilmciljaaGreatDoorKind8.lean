/-
  The document's ports: Write.
  Layer 8's document: which addresses are of which kind.
-/
import Derived.Test.YtcnejgilmciljaaGreatDoorReadr11
import Derived.Deep.DeepCutAuto
import Derived.Test.YtcnejgilmciljaaGreatDoorBase
set_option linter.unusedSimpArgs false
set_option linter.unusedVariables false
namespace Go.Proofs.YtcnejgilmciljaaGreatDoor
open Go.RowKit Go.PlainAid

theorem Tryz.infoU8 : (Tryz.prog.info? 5).map (fun i => (i.zero, i.size, i.bytes)) = some (some (.int .u8 0), 1, 1) := by kernel_rfl
theorem Tryz.infoBy : (Tryz.prog.info? 49).map (fun i => (i.zero, i.size, i.bytes)) = some (some (.agg #[.int .u8 0, .int .u8 0]), 2, 2) := by kernel_rfl
theorem Tryz.infoInt : (Tryz.prog.info? 3).map (fun i => (i.zero, i.size, i.bytes)) = some (some (.int .i64 0), 1, 8) := by kernel_rfl
/-- What Write answers: the rule, the error. -/
def writeE (S : Po) (reg t : Int) : Int × Int :=
  if ¬ (0 ≤ reg ∧ reg ≤ 4) then (0, 10) else if reg ≤ 2 ∧ 0 < t then (4, 20) else if (reg = 2 ∧ 4096 ≤ S.out.length) ∨ (reg = 3 ∧ 4096 ≤ S.kept.length) ∨ (reg = 4 ∧ 4096 ≤ S.told.length) then (0, 18) else (0, 0)
def wrPo (S : Po) (reg v t cy : Int) : Po :=
  if (writeE S reg t).2 ≠ 0 then S else if reg = 2 then ⟨S.pub, S.sec, S.out ++ [v], S.kept, S.cyc, S.told⟩ else if reg = 3 then ⟨S.pub, S.sec, S.out, S.kept ++ [(v, t)], S.cyc, S.told⟩ else if reg = 4 then ⟨S.pub, S.sec, S.out, S.kept, S.cyc ++ [cy], S.told ++ [v]⟩ else S
def WriteEnd (rb : Nat) (S : Po) (x y a b c d : Value) (reg v t cy : Int) (w : World) : Ending → World → Prop := fun e w' =>
  e = .returned (.tuple #[.int .i64 (writeE S reg t).1, .int .i64 (writeE S reg t).2]) ∧ ∃ a' b' c' d', Hq rb (rD S a b c d) (rD (wrPo S reg v t cy) a' b' c' d') w w' ∧ Dp rb (wrPo S reg v t cy) x y a' b' c' d' w'
theorem Inp.hq {rb o : Nat} {R R' : List Rw} {x : Value} {l : List Int} {w u : World} (h : Inp rb o (foot rb R) x l w) (hq : Hq rb R R' w u) (ho : ∀ (i : Nat) (r : Rw), R[i]? = some r → r.off ≠ o) : Inp rb o (foot rb R') x l u := by
  refine ⟨(hq.at_ o ho).1.trans h.c, (hq.at_ o ho).2.trans h.f, h.h.fr hq.fr h.n, fun hl b hb hf => ?_⟩
  rcases hq.ft b hf with h1 | h1
  · exact h.n hl b hb h1
  · rcases h.h with ⟨_, e⟩ | ⟨g, o', cap, rfl, _, hc⟩
    · exact hl e
    · obtain rfl : g = b := by simpa [Value.ownBlock] using hb
      cases l with
      | nil => exact hl rfl
      | cons z r =>
        have := klt (hc 0 z rfl 0 _ rfl)
        omega
theorem Dp.hq {rb : Nat} {S S' : Po} {x y a b c d a' b' c' d' : Value} {w u : World} (h : Dp rb S x y a b c d w) (hq : Hq rb (rD S a b c d) (rD S' a' b' c' d') w u) (hp : S'.pub = S.pub) (hs : S'.sec = S.sec) : Dp rb S' x y a' b' c' d' u :=
  ⟨hq.hold, by rw [hp]; exact h.p.hq hq (rD_off S a b c d 0 (by omega)), by rw [hs]; exact h.s.hq hq (rD_off S a b c d 1 (by omega))⟩
theorem writeEnd_no {rb : Nat} {S : Po} {x y a b c d : Value} {reg v t cy U E : Int} {w w' : World} (h : writeE S reg t = (U, E)) (hP : wrPo S reg v t cy = S) (hD : Dp rb S x y a b c d w) (hb : Below w.heap.size w w') :
    WriteEnd rb S x y a b c d reg v t cy w (.returned (.tuple #[.int .i64 U, .int .i64 E])) w' := by
  refine ⟨by rw [h], a, b, c, d, ?_⟩
  rw [hP]
  exact ⟨(Hq.refl hD.hold).below hD.hold hb, hD.below hb⟩
set_option maxRecDepth 100000 in
set_option maxHeartbeats 4000000 in
theorem writer_bad (rb : Nat) (S : Po) (x y a b c d : Value) (reg v t cy : Int) (hr : ¬ (0 ≤ reg ∧ reg ≤ 4)) (w : World) (h : Dp rb S x y a b c d w) :
    Calls Tryz.prog 43 #[.pointer (some ⟨rb, 0, none⟩), .int .i64 reg, .agg #[.int .u8 v, .int .u8 t], .int .i64 cy] w (WriteEnd rb S x y a b c d reg v t cy w) := by
  have HE := Lib.hid (show writeE S reg t = (0, 10) from by unfold writeE; rw [if_pos hr])
  have HP := Lib.hid (show wrPo S reg v t cy = S from by unfold wrPo; rw [HE.out, if_pos (by decide)])
  have HD := Lib.hid h
  have hd : decide (reg < 0) = true ∨ decide (reg < 0) = false ∧ decide (4 < reg) = true := by simp; omega
  clear h hr
  rcases hd with hd | ⟨hd, hd2⟩
  all_goals
    go_enter Tryz.func43, Tryz.ntmps43
    go_wp2
    go_ret2
    exact writeEnd_no HE.out HP.out HD.out (by go_grown)
set_option maxRecDepth 100000 in
set_option maxHeartbeats 4000000 in
theorem writer_alarm (rb : Nat) (S : Po) (x y a b c d : Value) (reg v t cy : Int) (hr : 0 ≤ reg ∧ reg ≤ 2) (ht : 0 < t) (w : World) (h : Dp rb S x y a b c d w) :
    Calls Tryz.prog 43 #[.pointer (some ⟨rb, 0, none⟩), .int .i64 reg, .agg #[.int .u8 v, .int .u8 t], .int .i64 cy] w (WriteEnd rb S x y a b c d reg v t cy w) := by
  have HE := Lib.hid (show writeE S reg t = (4, 20) from by unfold writeE; rw [if_neg (by omega), if_pos ⟨hr.2, ht⟩])
  have HP := Lib.hid (show wrPo S reg v t cy = S from by unfold wrPo; rw [HE.out, if_pos (by decide)])
  have HD := Lib.hid h
  have d1 : decide (reg < 0) = false := by simp; omega
  have d2 : decide (4 < reg) = false := by simp; omega
  have d3 : decide (reg ≤ 2) = true := by simp; omega
  have d4 : decide (0 < t) = true := by simp; omega
  clear h hr ht
  go_enter Tryz.func43, Tryz.ntmps43
  go_wp2
  go_ret2
  exact writeEnd_no HE.out HP.out HD.out (by go_grown)
set_option maxRecDepth 100000 in
set_option maxHeartbeats 4000000 in
theorem writer_in (rb : Nat) (S : Po) (x y a b c d : Value) (reg v cy : Int) (hr : reg = 0 ∨ reg = 1) (w : World) (h : Dp rb S x y a b c d w) :
    Calls Tryz.prog 43 #[.pointer (some ⟨rb, 0, none⟩), .int .i64 reg, .agg #[.int .u8 v, .int .u8 0], .int .i64 cy] w (WriteEnd rb S x y a b c d reg v 0 cy w) := by
  have HE := Lib.hid (show writeE S reg 0 = (0, 0) from by unfold writeE; rw [if_neg (by omega), if_neg (by omega), if_neg (by omega)])
  have HP := Lib.hid (show wrPo S reg v 0 cy = S from by unfold wrPo; rw [HE.out, if_neg (by decide), if_neg (by omega), if_neg (by omega), if_neg (by omega)])
  have HD := Lib.hid h
  clear h
  rcases hr with rfl | rfl
  all_goals
    go_enter Tryz.func43, Tryz.ntmps43
    go_wp2
    go_ret2
    exact writeEnd_no HE.out HP.out HD.out (by go_grown)
set_option maxRecDepth 100000 in
set_option maxHeartbeats 4000000 in
theorem writer_full (rb : Nat) (S : Po) (x y a b c d : Value) (reg v t cy : Int) (ht : reg = 2 → ¬ 0 < t) (hr : (reg = 2 ∧ 4096 ≤ S.out.length) ∨ (reg = 3 ∧ 4096 ≤ S.kept.length) ∨ (reg = 4 ∧ 4096 ≤ S.told.length)) (w : World) (h : Dp rb S x y a b c d w) :
    Calls Tryz.prog 43 #[.pointer (some ⟨rb, 0, none⟩), .int .i64 reg, .agg #[.int .u8 v, .int .u8 t], .int .i64 cy] w (WriteEnd rb S x y a b c d reg v t cy w) := by
  have HE := Lib.hid (show writeE S reg t = (0, 18) from by unfold writeE; rw [if_neg (by omega), if_neg (by omega), if_pos hr])
  have HP := Lib.hid (show wrPo S reg v t cy = S from by unfold wrPo; rw [HE.out, if_pos (by decide)])
  have HD := Lib.hid h
  have hlt := h.hold.lt
  obtain ⟨⟨k2, o2⟩, ⟨k3, o3⟩, ⟨k4, o4⟩, k5, o5⟩ := h.hold.at0
  obtain ⟨p2, c2, rfl⟩ := own_form o2
  obtain ⟨p3, c3, rfl⟩ := own_form o3
  obtain ⟨p5, c5, rfl⟩ := own_form o5
  generalize S.out.length = n2 at *
  generalize S.kept.length = n3 at *
  generalize S.told.length = n5 at *
  clear h o2 o3 o4 o5 k4
  rcases hr with ⟨rfl, hn⟩ | ⟨rfl, hn⟩ | ⟨rfl, hn⟩
  · have d1 : decide (0 < t) = false := by simpa using ht rfl
    have hn' : (4096 : Int) ≤ (n2 : Int) := by omega
    clear ht hn
    go_enter Tryz.func43, Tryz.ntmps43
    go_wp2
    go_ret2
    exact writeEnd_no HE.out HP.out HD.out (by go_grown)
  · have hn' : (4096 : Int) ≤ (n3 : Int) := by omega
    clear ht hn
    go_enter Tryz.func43, Tryz.ntmps43
    go_wp2
    go_ret2
    exact writeEnd_no HE.out HP.out HD.out (by go_grown)
  · have hn' : (4096 : Int) ≤ (n5 : Int) := by omega
    clear ht hn
    go_enter Tryz.func43, Tryz.ntmps43
    go_wp2
    go_ret2
    exact writeEnd_no HE.out HP.out HD.out (by go_grown)
theorem two_at {W : World} (T : TypeId) (z z' : Value) : ∀ j u, [z, z'][j]? = some u → (W.alloc (.cells #[z, z'] T)).cell? ((⟨W.heap.size, 0, none⟩ : Addr).add j) = some u := by
  intro j u hu
  rw [Addr.add_lit, Nat.zero_add, cell_of_row _ _ _ _ _ _ (heap_alloc_new W (.cells #[z, z'] T))]
  simpa using hu
theorem one_at {W : World} (T : TypeId) (z : Value) : ∀ j u, [z][j]? = some u → (W.alloc (.cells #[z] T)).cell? ((⟨W.heap.size, 0, none⟩ : Addr).add j) = some u := cell_one_new W z T
/-- What goes out: one more. -/
theorem hold_out {rb : Nat} {S : Po} {a b c d a' : Value} {w U w' : World} {v : Int} (h : Hold rb (rD S a b c d) w) (hb : Below w.heap.size w U) (ho : w'.ownsRow 0 5 1 a' (S.out.length + 1) (S.out.flatMap bE ++ [.int .u8 v])) (hg : Grew U w' a a') :
    Hq rb (rD S a b c d) (rD ⟨S.pub, S.sec, S.out ++ [v], S.kept, S.cyc, S.told⟩ a' b c d) w (w'.setCell ⟨rb, 2, none⟩ a') := by
  have := Hq.app h hb (i := 0) rfl ho (Nat.le_succ _) (fun j hj => List.getElem?_append_left (by rw [flat_len8 bE_len]; exact hj)) hg
  simpa [rD, bE] using this
theorem hold_kept {rb : Nat} {S : Po} {a b c d a' : Value} {w U w' : World} {v t : Int} (h : Hold rb (rD S a b c d) w) (hb : Below w.heap.size w U) (ho : w'.ownsRow 0 49 2 a' (S.kept.length + 1) (S.kept.flatMap kE ++ [.int .u8 v, .int .u8 t])) (hg : Grew U w' b a') :
    Hq rb (rD S a b c d) (rD ⟨S.pub, S.sec, S.out, S.kept ++ [(v, t)], S.cyc, S.told⟩ a a' c d) w (w'.setCell ⟨rb, 3, none⟩ a') := by
  have := Hq.app h hb (i := 1) rfl ho (Nat.le_succ _) (fun j hj => List.getElem?_append_left (by rw [flat_len8 kE_len]; exact hj)) hg
  simpa [rD, kE] using this
theorem hold_cyc {rb : Nat} {S : Po} {a b c d a' : Value} {w U w' : World} {v : Int} (h : Hold rb (rD S a b c d) w) (hb : Below w.heap.size w U) (ho : w'.ownsRow 0 3 1 a' (S.cyc.length + 1) (S.cyc.flatMap cE ++ [.int .i64 v])) (hg : Grew U w' c a') :
    Hq rb (rD S a b c d) (rD ⟨S.pub, S.sec, S.out, S.kept, S.cyc ++ [v], S.told⟩ a b a' d) w (w'.setCell ⟨rb, 4, none⟩ a') := by
  have := Hq.app h hb (i := 2) rfl ho (Nat.le_succ _) (fun j hj => List.getElem?_append_left (by rw [flat_len8 cE_len]; exact hj)) hg
  simpa [rD, cE] using this
theorem hold_told {rb : Nat} {S : Po} {a b c d a' : Value} {w U w' : World} {v : Int} (h : Hold rb (rD S a b c d) w) (hb : Below w.heap.size w U) (ho : w'.ownsRow 0 5 1 a' (S.told.length + 1) (S.told.flatMap bE ++ [.int .u8 v])) (hg : Grew U w' d a') :
    Hq rb (rD S a b c d) (rD ⟨S.pub, S.sec, S.out, S.kept, S.cyc, S.told ++ [v]⟩ a b c a') w (w'.setCell ⟨rb, 5, none⟩ a') := by
  have := Hq.app h hb (i := 3) rfl ho (Nat.le_succ _) (fun j hj => List.getElem?_append_left (by rw [flat_len8 bE_len]; exact hj)) hg
  simpa [rD, bE] using this
theorem writeEnd_ok {rb : Nat} {S S' : Po} {x y a b c d a' b' c' d' : Value} {reg v t cy : Int} {w w' : World} (h : writeE S reg t = (0, 0)) (hP : wrPo S reg v t cy = S') (hD : Dp rb S x y a b c d w) (hq : Hq rb (rD S a b c d) (rD S' a' b' c' d') w w') (hp : S'.pub = S.pub) (hs : S'.sec = S.sec) :
    WriteEnd rb S x y a b c d reg v t cy w (.returned (.tuple #[.int .i64 0, .int .i64 0])) w' := by
  refine ⟨by rw [h], a', b', c', d', ?_⟩
  rw [hP]
  exact ⟨hq, hD.hq hq hp hs⟩
set_option maxRecDepth 100000 in
set_option maxHeartbeats 4000000 in
theorem writer_out (rb : Nat) (S : Po) (x y a b c d : Value) (v cy : Int) (hl : S.out.length < 4096) (w : World) (h : Dp rb S x y a b c d w) :
    Calls Tryz.prog 43 #[.pointer (some ⟨rb, 0, none⟩), .int .i64 2, .agg #[.int .u8 v, .int .u8 0], .int .i64 cy] w (WriteEnd rb S x y a b c d 2 v 0 cy w) := by
  have HE := Lib.hid (show writeE S 2 0 = (0, 0) from by unfold writeE; rw [if_neg (by omega), if_neg (by omega), if_neg (by omega)])
  have HP := Lib.hid (show wrPo S 2 v 0 cy = ⟨S.pub, S.sec, S.out ++ [v], S.kept, S.cyc, S.told⟩ from by unfold wrPo; rw [HE.out, if_neg (by decide), if_pos rfl])
  have HD := Lib.hid h
  have hlt := h.hold.lt
  obtain ⟨⟨k2, o2⟩, -⟩ := h.hold.at0
  have f2 := (h.hold.cell 0 _ rfl).2
  dsimp only at f2
  obtain ⟨p2, c2, rfl⟩ := own_form o2
  obtain ⟨n2, hn2⟩ : ∃ n, S.out.length = n := ⟨_, rfl⟩
  have HO := Lib.hid o2
  rw [hn2] at k2 hl HO
  have HN := Lib.hid hn2
  have hn' : ¬ (4096 : Int) ≤ (n2 : Int) := by omega
  obtain ⟨i0, hi, hz0, hz1, hz2⟩ := info_parts Tryz.infoU8
  clear h o2 hn2
  have hp_0 := k2
  have fp_0 := f2
  clear k2 f2
  go_enter Tryz.func43, Tryz.ntmps43
  have HDo := Lib.hid (HD.out.hold.own 0 _ rfl).2
  have HBw := Lib.hid (Below.refl w.heap.size w)
  go_wp2_with fail
  go_region_law (first
    | (refine step_append_f rfl (.tmp 64) (.tmp 67) 25 rfl 5 i0 _ 1 1 Tryz.underlying25 hi hz0 hz1 hz2 rfl (by decide) (.slice p2 n2 c2) n2 (S.out.flatMap bE) (by simp [Act.eval, Act.put]) (Below.ownRow (by go_grown) HO.out) ⟨_, 0, none⟩ 1 1 [.int .u8 v] (by simp [Act.eval, Act.put] <;> rfl) rfl (one_at _ _) (by intro u hu; simp at hu; subst hu; rfl) (by unfold maxLen; omega) (by omega) ?_
       intro v' w' hown' hg
       obtain ⟨p', cp', rfl⟩ := own_form hown'
       have hcs : w'.cell? ⟨rb, 2, none⟩ = some (.slice p2 n2 c2) := hg.cell (by simpa [rD, HN.out] using HDo.out) (by go_simp)
       have hfs : w'.frozen? ⟨rb, 2, none⟩ = false := hg.frozen (by simpa [rD, HN.out] using HDo.out) (by simp; omega) (by go_simp)
       have HG := Lib.hid (And.intro (hg.base (N := w.heap.size) (w := w) (by go_grown)) (And.intro hown' hg))
       clear hown' hg))
  all_goals
    go_wp2
    go_ret2
    refine writeEnd_ok HE.out HP.out HD.out (hold_out HD.out.hold HG.out.1 ?_ ?_) rfl rfl
    · rw [HN.out]; exact HG.out.2.1
    · rw [HN.out]; exact HG.out.2.2
set_option maxRecDepth 100000 in
set_option maxHeartbeats 4000000 in
theorem writer_kept (rb : Nat) (S : Po) (x y a b c d : Value) (v t cy : Int) (hl : S.kept.length < 4096) (w : World) (h : Dp rb S x y a b c d w) :
    Calls Tryz.prog 43 #[.pointer (some ⟨rb, 0, none⟩), .int .i64 3, .agg #[.int .u8 v, .int .u8 t], .int .i64 cy] w (WriteEnd rb S x y a b c d 3 v t cy w) := by
  have HE := Lib.hid (show writeE S 3 t = (0, 0) from by unfold writeE; rw [if_neg (by omega), if_neg (by omega), if_neg (by omega)])
  have HP := Lib.hid (show wrPo S 3 v t cy = ⟨S.pub, S.sec, S.out, S.kept ++ [(v, t)], S.cyc, S.told⟩ from by unfold wrPo; rw [HE.out, if_neg (by decide), if_neg (by decide), if_pos rfl])
  have HD := Lib.hid h
  have hlt := h.hold.lt
  obtain ⟨-, ⟨k2, o2⟩, -⟩ := h.hold.at0
  have f2 := (h.hold.cell 1 _ rfl).2
  dsimp only at f2
  obtain ⟨p2, c2, rfl⟩ := own_form o2
  obtain ⟨n2, hn2⟩ : ∃ n, S.kept.length = n := ⟨_, rfl⟩
  have HO := Lib.hid o2
  rw [hn2] at k2 hl HO
  have HN := Lib.hid hn2
  have hn' : ¬ (4096 : Int) ≤ (n2 : Int) := by omega
  obtain ⟨i0, hi, hz0, hz1, hz2⟩ := info_parts Tryz.infoBy
  clear h o2 hn2
  have hp_0 := k2
  have fp_0 := f2
  clear k2 f2
  go_enter Tryz.func43, Tryz.ntmps43
  have HDo := Lib.hid (HD.out.hold.own 1 _ rfl).2
  have HBw := Lib.hid (Below.refl w.heap.size w)
  go_wp2_with fail
  go_region_law (first
    | (refine step_append_f rfl (.tmp 77) (.tmp 79) 40 rfl 49 i0 _ 2 2 Tryz.underlying40 hi hz0 hz1 hz2 rfl (by decide) (.slice p2 n2 c2) n2 (S.kept.flatMap kE) (by simp [Act.eval, Act.put]) (Below.ownRow (by go_grown) HO.out) ⟨_, 0, none⟩ 1 1 [.int .u8 v, .int .u8 t] (by simp [Act.eval, Act.put] <;> rfl) rfl (two_at _ _ _) (by intro u hu; simp at hu; rcases hu with rfl | rfl <;> rfl) (by unfold maxLen; omega) (by omega) ?_
       intro v' w' hown' hg
       obtain ⟨p', cp', rfl⟩ := own_form hown'
       have hcs : w'.cell? ⟨rb, 3, none⟩ = some (.slice p2 n2 c2) := hg.cell (by simpa [rD, HN.out] using HDo.out) (by go_simp)
       have hfs : w'.frozen? ⟨rb, 3, none⟩ = false := hg.frozen (by simpa [rD, HN.out] using HDo.out) (by simp; omega) (by go_simp)
       have HG := Lib.hid (And.intro (hg.base (N := w.heap.size) (w := w) (by go_grown)) (And.intro hown' hg))
       clear hown' hg))
  all_goals
    go_wp2
    go_ret2
    refine writeEnd_ok HE.out HP.out HD.out (hold_kept HD.out.hold HG.out.1 ?_ ?_) rfl rfl
    · rw [HN.out]; exact HG.out.2.1
    · rw [HN.out]; exact HG.out.2.2
set_option maxRecDepth 100000 in
set_option maxHeartbeats 4000000 in
theorem writer_told (rb : Nat) (S : Po) (x y a b c d : Value) (v t cy : Int) (hl : S.told.length < 4096) (hl2 : S.cyc.length ≤ 100000) (w : World) (h : Dp rb S x y a b c d w) :
    Calls Tryz.prog 43 #[.pointer (some ⟨rb, 0, none⟩), .int .i64 4, .agg #[.int .u8 v, .int .u8 t], .int .i64 cy] w (WriteEnd rb S x y a b c d 4 v t cy w) := by
  have HE := Lib.hid (show writeE S 4 t = (0, 0) from by unfold writeE; rw [if_neg (by omega), if_neg (by omega), if_neg (by omega)])
  have HP := Lib.hid (show wrPo S 4 v t cy = ⟨S.pub, S.sec, S.out, S.kept, S.cyc ++ [cy], S.told ++ [v]⟩ from by unfold wrPo; rw [HE.out, if_neg (by decide), if_neg (by decide), if_neg (by decide), if_pos rfl])
  have HD := Lib.hid h
  have hlt := h.hold.lt
  obtain ⟨-, -, ⟨k4, o4⟩, k5, o5⟩ := h.hold.at0
  have f5 := (h.hold.cell 3 _ rfl).2
  have f4 := (h.hold.cell 2 _ rfl).2
  dsimp only at f5 f4
  obtain ⟨p5, c5, rfl⟩ := own_form o5
  obtain ⟨p4, c4, rfl⟩ := own_form o4
  obtain ⟨n5, hn5⟩ : ∃ n, S.told.length = n := ⟨_, rfl⟩
  obtain ⟨n4, hn4⟩ : ∃ n, S.cyc.length = n := ⟨_, rfl⟩
  have HO := Lib.hid o5
  rw [hn5] at k5 hl HO
  rw [hn4] at k4 hl2
  have HN := Lib.hid hn5
  have HN4 := Lib.hid hn4
  have hn' : ¬ (4096 : Int) ≤ (n5 : Int) := by omega
  obtain ⟨i0, hi, hz0, hz1, hz2⟩ := info_parts Tryz.infoU8
  obtain ⟨i1, hi', hz0', hz1', hz2'⟩ := info_parts Tryz.infoInt
  clear h o4 o5 hn5 hn4
  have HDo := Lib.hid (HD.out.hold.own 3 _ rfl).2
  go_enter Tryz.func43, Tryz.ntmps43
  go_upto_region 13 with fail
  go_cut [] (fun wx => ∃ p' k', Hid (Hq rb (rD S a b (.slice p4 S.cyc.length c4) (.slice p5 S.told.length c5)) (rD ⟨S.pub, S.sec, S.out, S.kept, S.cyc, S.told ++ [v]⟩ a b (.slice p4 S.cyc.length c4) (.slice p' (n5 + 1) k')) w wx) ∧
    wx.cell? ⟨rb, 4, none⟩ = some (.slice p4 n4 c4) ∧ wx.frozen? ⟨rb, 4, none⟩ = false)
  case first =>
    go_region_law (first
      | (refine step_append_f rfl (.tmp 89) (.tmp 92) 25 rfl 5 i0 _ 1 1 Tryz.underlying25 hi hz0 hz1 hz2 rfl (by decide) (.slice p5 n5 c5) n5 (S.told.flatMap bE) (by simp [Act.eval, Act.put]) (Below.ownRow (by go_grown) HO.out) ⟨_, 0, none⟩ 1 1 [.int .u8 v] (by simp [Act.eval, Act.put] <;> rfl) rfl (one_at _ _) (by intro u hu; simp at hu; subst hu; rfl) (by unfold maxLen; omega) (by omega) ?_
         intro v' w' hown' hg
         obtain ⟨p', cp', rfl⟩ := own_form hown'
         have hcs : w'.cell? ⟨rb, 5, none⟩ = some (.slice p5 n5 c5) := hg.cell (by simpa [rD, HN.out] using HDo.out) (by go_simp)
         have hfs : w'.frozen? ⟨rb, 5, none⟩ = false := hg.frozen (by simpa [rD, HN.out] using HDo.out) (by simp; omega) (by go_simp)
         have hcs4 : w'.cell? ⟨rb, 4, none⟩ = some (.slice p4 n4 c4) := hg.cell (by simpa [rD, HN.out] using HDo.out) (by go_simp)
         have hfs4 : w'.frozen? ⟨rb, 4, none⟩ = false := hg.frozen (by simpa [rD, HN.out] using HDo.out) (by simp; omega) (by go_simp)
         have hlt' : rb < w'.heap.size := klt hcs
         have HQ := Lib.hid (hold_told HD.out.hold (hg.base (N := w.heap.size) (w := w) (by go_grown)) (by rw [HN.out]; exact hown') (by rw [HN.out]; exact hg))
         clear hown' hg))
    all_goals
      go_wp2_with fail
      go_meet
      exact ⟨p', cp', HQ, by go_simp, by go_simp⟩
  case rest =>
    obtain ⟨p', k', HQ, hcs4, hfs4⟩ := hcut
    have hlt' : rb < wc.heap.size := klt hcs4
    have HO4 := Lib.hid (show wc.ownsRow 0 3 1 (.slice p4 n4 c4) n4 (S.cyc.flatMap cE) from by have := (HQ.out.hold.own 2 _ rfl).1; dsimp only at this; rw [HN4.out] at this; exact this)
    have HDo4 := Lib.hid (HQ.out.hold.own 2 _ rfl).2
    go_wp2_with (at_builtin; refine wpList_append_f _ rfl _ _ 41 rfl 3 i1 _ 1 8 Tryz.underlying41 hi' hz0' hz1' hz2' rfl (by decide) _ n4 (S.cyc.flatMap cE) rfl ?c0 ⟨_, 0, none⟩ 1 1 [.int .i64 cy] rfl rfl ?c1 ?c2 ?c3 ?c4 ?_)
    case c0 => exact Below.ownRow ((Below.refl _ _).alloc (Nat.le_refl _) _) HO4.out
    (try case c1 => exact one_at _ _)
    case c2 => first | rfl | (intro u hu; simp at hu; subst hu; rfl)
    case c3 => unfold maxLen; omega
    case c4 => omega
    intro v2 w2 hown2 hg2
    obtain ⟨p'', cp'', rfl⟩ := own_form hown2
    have hcs2 : w2.cell? ⟨rb, 4, none⟩ = some (.slice p4 n4 c4) := hg2.cell (by simpa [rD, HN4.out] using HDo4.out) (by go_simp)
    have hfs2 : w2.frozen? ⟨rb, 4, none⟩ = false := hg2.frozen (by simpa [rD, HN4.out] using HDo4.out) (by simp; omega) (by go_simp)
    have HQ2 := Lib.hid (Hq.trans HD.out.hold HQ.out (hold_cyc HQ.out.hold (hg2.base ((Below.refl _ _).alloc (Nat.le_refl _) _)) (by (try dsimp only); rw [HN4.out]; exact hown2) (by (try dsimp only); rw [HN4.out]; exact hg2)))
    clear hown2 hg2 hcs4 hfs4
    go_wp2
    go_ret2
    exact writeEnd_ok HE.out HP.out HD.out HQ2.out rfl rfl
/-- What Write asks of ports: the log's two halves are of one length, and short. -/
theorem rwrite11_c (rb : Nat) (S : Po) (x y a b c d : Value) (reg v t cy : Int) (ht : 0 ≤ t ∧ t ≤ 255) (hl : S.cyc.length ≤ 100000) (w : World) (h : Dp rb S x y a b c d w) :
    Calls Tryz.prog 43 #[.pointer (some ⟨rb, 0, none⟩), .int .i64 reg, .agg #[.int .u8 v, .int .u8 t], .int .i64 cy] w (WriteEnd rb S x y a b c d reg v t cy w) := by
  by_cases hr : 0 ≤ reg ∧ reg ≤ 4
  · by_cases ha : reg ≤ 2 ∧ 0 < t
    · exact writer_alarm rb S x y a b c d reg v t cy ⟨hr.1, ha.1⟩ ha.2 w h
    · by_cases hf : (reg = 2 ∧ 4096 ≤ S.out.length) ∨ (reg = 3 ∧ 4096 ≤ S.kept.length) ∨ (reg = 4 ∧ 4096 ≤ S.told.length)
      · exact writer_full rb S x y a b c d reg v t cy (fun e h0 => ha ⟨by omega, h0⟩) hf w h
      · rcases (show reg = 0 ∨ reg = 1 ∨ reg = 2 ∨ reg = 3 ∨ reg = 4 by omega) with e | e | e | e | e
        · obtain rfl : t = 0 := by omega
          exact writer_in rb S x y a b c d reg v cy (.inl e) w h
        · obtain rfl : t = 0 := by omega
          exact writer_in rb S x y a b c d reg v cy (.inr e) w h
        · obtain rfl : t = 0 := by omega
          subst e
          exact writer_out rb S x y a b c d v cy (by omega) w h
        · subst e
          exact writer_kept rb S x y a b c d v t cy (by omega) w h
        · subst e
          exact writer_told rb S x y a b c d v t cy (by omega) hl w h
  · exact writer_bad rb S x y a b c d reg v t cy hr w h
end Go.Proofs.YtcnejgilmciljaaGreatDoor
set_option linter.unusedSimpArgs false
set_option linter.unusedVariables false
namespace Go.Proofs.YtcnejgilmciljaaGreatDoor
open Go.RowKit Go.PlainAid

def ramB (a : Int) : Bool := decide (0 ≤ a) && decide (a < 32768)
def romB (a : Int) : Bool := decide (49152 ≤ a) && decide (a < 65536)
def devB (a : Int) : Bool := decide (32768 ≤ a) && decide (a < 32784)
def oneB (a b : Int) : Bool := (ramB a && ramB b) || (romB a && romB b)
set_option maxRecDepth 100000 in
theorem ramr_c (a : Int) (w : World) : Calls Tryz.prog 70 #[.int .i64 a] w fun e w' => e = .returned (.bool (ramB a)) ∧ Below w.heap.size w w' := by
  unfold ramB
  cases h1 : decide (0 ≤ a)
  · go_enter Tryz.func70, Tryz.ntmps70
    go_wp2
    go_ret
    exact ⟨rfl, by go_grown⟩
  · go_enter Tryz.func70, Tryz.ntmps70
    go_wp2
    go_ret
    exact ⟨rfl, by go_grown⟩
set_option maxRecDepth 100000 in
theorem romr_c (a : Int) (w : World) : Calls Tryz.prog 71 #[.int .i64 a] w fun e w' => e = .returned (.bool (romB a)) ∧ Below w.heap.size w w' := by
  unfold romB
  cases h1 : decide (49152 ≤ a)
  · go_enter Tryz.func71, Tryz.ntmps71
    go_wp2
    go_ret
    exact ⟨rfl, by go_grown⟩
  · go_enter Tryz.func71, Tryz.ntmps71
    go_wp2
    go_ret
    exact ⟨rfl, by go_grown⟩
set_option maxRecDepth 100000 in
theorem devr_c (a : Int) (w : World) : Calls Tryz.prog 24 #[.int .i64 a] w fun e w' => e = .returned (.bool (devB a)) ∧ Below w.heap.size w w' := by
  unfold devB
  cases h1 : decide (32768 ≤ a)
  · go_enter Tryz.func24, Tryz.ntmps24
    go_wp2
    go_ret
    exact ⟨rfl, by go_grown⟩
  · go_enter Tryz.func24, Tryz.ntmps24
    go_wp2
    go_ret
    exact ⟨rfl, by go_grown⟩
set_option maxRecDepth 100000 in
theorem oner_c (a b : Int) (w : World) : Calls Tryz.prog 72 #[.int .i64 a, .int .i64 b] w fun e w' => e = .returned (.bool (oneB a b)) ∧ Below w.heap.size w w' := by
  have H1 := Lib.hid (fun W => ramr_c a W)
  have H2 := Lib.hid (fun W => ramr_c b W)
  have H3 := Lib.hid (fun W => romr_c a W)
  have H4 := Lib.hid (fun W => romr_c b W)
  unfold oneB
  generalize ramB a = R1 at *
  generalize ramB b = R2 at *
  generalize romB a = R3 at *
  generalize romB b = R4 at *
  cases R1
  · go_enter Tryz.func72, Tryz.ntmps72
    go_wp2_with fail
    ((with_reducible refine (H1.out _).mono ?_); rintro _ u1 ⟨rfl, hb⟩)
    have hz := hb.size
    (try simp only [World.size_alloc, World.size_setCell, World.size_drew] at hz)
    have hB' : Below w.heap.size w u1 := by
        refine kb ?_ hb
        go_grown
    clear hb hz
    have hB := hB'; clear hB'
    have hsz := hB.size
    go_wp2_with fail
    ((with_reducible refine (H3.out _).mono ?_); rintro _ u2 ⟨rfl, hb⟩)
    have hz := hb.size
    (try simp only [World.size_alloc, World.size_setCell, World.size_drew] at hz)
    have hB' : Below w.heap.size w u2 := by
        refine kb ?_ hb
        go_grown
    clear hB hsz
    clear hb hz
    have hB := hB'; clear hB'
    have hsz := hB.size
    cases R3
    · go_wp2
      go_ret
      exact ⟨rfl, hB⟩
    · go_wp2_with fail
      ((with_reducible refine (H4.out _).mono ?_); rintro _ u3 ⟨rfl, hb⟩)
      have hz := hb.size
      (try simp only [World.size_alloc, World.size_setCell, World.size_drew] at hz)
      have hB' : Below w.heap.size w u3 := by
          refine kb ?_ hb
          go_grown
      clear hB hsz
      clear hb hz
      have hB := hB'; clear hB'
      have hsz := hB.size
      go_wp2
      go_ret
      exact ⟨rfl, hB⟩
  · go_enter Tryz.func72, Tryz.ntmps72
    go_wp2_with fail
    ((with_reducible refine (H1.out _).mono ?_); rintro _ u1 ⟨rfl, hb⟩)
    have hz := hb.size
    (try simp only [World.size_alloc, World.size_setCell, World.size_drew] at hz)
    have hB' : Below w.heap.size w u1 := by
        refine kb ?_ hb
        go_grown
    clear hb hz
    have hB := hB'; clear hB'
    have hsz := hB.size
    go_wp2_with fail
    ((with_reducible refine (H2.out _).mono ?_); rintro _ u2 ⟨rfl, hb⟩)
    have hz := hb.size
    (try simp only [World.size_alloc, World.size_setCell, World.size_drew] at hz)
    have hB' : Below w.heap.size w u2 := by
        refine kb ?_ hb
        go_grown
    clear hB hsz
    clear hb hz
    have hB := hB'; clear hB'
    have hsz := hB.size
    cases R2
    · go_wp2_with fail
      ((with_reducible refine (H3.out _).mono ?_); rintro _ u3 ⟨rfl, hb⟩)
      have hz := hb.size
      (try simp only [World.size_alloc, World.size_setCell, World.size_drew] at hz)
      have hB' : Below w.heap.size w u3 := by
          refine kb ?_ hb
          go_grown
      clear hB hsz
      clear hb hz
      have hB := hB'; clear hB'
      have hsz := hB.size
      cases R3
      · go_wp2
        go_ret
        exact ⟨rfl, hB⟩
      · go_wp2_with fail
        ((with_reducible refine (H4.out _).mono ?_); rintro _ u4 ⟨rfl, hb⟩)
        have hz := hb.size
        (try simp only [World.size_alloc, World.size_setCell, World.size_drew] at hz)
        have hB' : Below w.heap.size w u4 := by
            refine kb ?_ hb
            go_grown
        clear hB hsz
        clear hb hz
        have hB := hB'; clear hB'
        have hsz := hB.size
        go_wp2
        go_ret
        exact ⟨rfl, hB⟩
    · go_wp2
      go_ret
      exact ⟨rfl, hB⟩
end Go.Proofs.YtcnejgilmciljaaGreatDoor
