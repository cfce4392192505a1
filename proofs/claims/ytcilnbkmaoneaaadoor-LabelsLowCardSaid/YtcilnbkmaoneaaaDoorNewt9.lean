/-
  The program: New, Policy, Secret, Sink, Leaks.
-/
import Derived.Test.YtcilnbkmaoneaaaDoorTabp9
set_option linter.unusedSimpArgs false
set_option linter.unusedVariables false
namespace Go.Proofs.YtcilnbkmaoneaaaDoor
open Go.RowKit Go.PlainAid

/-- The table of a policy, at the block tb. -/
structure Tp (tb : Nat) (P : Pol) (w : World) : Prop where
  row : ∃ x y, Tb tb x y P.d P.t (bitsR P.s) (bitsR P.k) w ∧ HoldsS w x (sortS P.s) ∧ HoldsS w y (sortS P.k)
theorem Tp.lt {tb : Nat} {P : Pol} {w : World} (h : Tp tb P w) : tb < w.heap.size := by
  obtain ⟨x, y, h, _⟩ := h.row
  exact h.lt
theorem Tp.below {tb : Nat} {P : Pol} {w u : World} (h : Tp tb P w) (hb : Below w.heap.size w u) : Tp tb P u := by
  obtain ⟨x, y, h, h1, h2⟩ := h.row
  exact ⟨x, y, h.below hb, h1.below hb, h2.below hb⟩
theorem holdsS_grown {w u : World} {v : Value} {l : List Sp} {tb : Nat} (h : HoldsS w v l) (hg : w.grownBy u (some tb)) (hne : ∀ g, v.ownBlock = some g → g ≠ tb) : HoldsS u v l := by
  rcases h with h | ⟨g, o, cap, rfl, hc, h⟩
  · exact .inl h
  · exact .inr ⟨g, o, cap, rfl, hc, fun j x hx i y hy => hg.cell (h j x hx i y hy) (by have := hne g rfl; simpa using this)⟩
/-- Behind a write into a block that is newer all is as it was. -/
theorem below_grown9 {w u v : World} {bb : Nat} (h : Below w.heap.size w u) (hg : u.grownBy v (some bb)) (hb : w.heap.size ≤ bb) : Below w.heap.size w v :=
  ⟨hg.os.trans h.os, hg.tape.trans h.tape, hg.output.trans h.output, Nat.le_trans h.size hg.size, fun b hl => (hg.block b (Nat.lt_of_lt_of_le hl h.size) (by simpa using fun e : b = bb => by omega)).trans (h.block b hl)⟩
/-- What New answers of a policy that may be. -/
def NewtEnd (w : World) (P : Pol) : Ending → World → Prop := fun e w' => ∃ tb, e = .returned (.tuple #[.pointer (some ⟨tb, 0, none⟩), .int .i64 0]) ∧ Below w.heap.size w w' ∧ Tp tb P w' ∧ w.heap.size ≤ tb
set_option maxRecDepth 100000 in
theorem newt_bad (P : Pol) (hl : P.s.length ≤ 1000 ∧ P.k.length ≤ 1000) (v : Value) (w : World) (hv : HoldsP w v P) (hc : ¬ checkM P = 0) :
    Calls Tryd.prog 9 #[v] w fun e w' => e = .returned (.tuple #[.pointer none, .int .i64 (checkM P)]) ∧ Below w.heap.size w w' := by
  have HC := Lib.hid (fun W (hb : Below w.heap.size w W) => check_c P hl v W (hv.below hb))
  obtain ⟨v1, v2, rfl, h1, h2⟩ := hv
  generalize checkM P = E at *
  have e1 : (E == 0) = false := by simpa using hc
  have e2 : (E != 0) = true := by simp [bne, e1]
  clear h1 h2 hc
  go_enter Tryd.func9, Tryd.ntmps9
  go_wp2_with fail
  ((with_reducible refine (HC.out _ (by go_grown)).mono ?_); rintro _ u1 ⟨rfl, hb⟩)
  have T : CC u1 w.heap.size 0 1 (v1) (v2) ∧ CC u1 w.heap.size 2 3 (.int .i64 P.d) (.int .i64 P.t) := by
      refine ⟨⟨?_, ?_⟩, ⟨?_, ?_⟩⟩ <;> refine kc hb ?_ <;> (go_simp; first | done | rfl)
  have hz := hb.size
  (try simp only [World.size_alloc, World.size_setCell, World.size_drew] at hz)
  have L : w.heap.size < u1.heap.size := by omega
  have hB' : Below w.heap.size w u1 := by
      refine kb ?_ hb
      go_grown
  clear hb hz
  obtain ⟨⟨hp_0, hp_1⟩, ⟨hp_2, hp_3⟩⟩ := T
  have hlp := L; clear L
  obtain ⟨hnp0, hnp1, hkp1, hnp2, hkp2⟩ := ap0 hlp
  have hB := hB'; clear hB'
  have hsz := hB.size
  go_wp2
  refine bodyPost_ret (v := .tuple #[.pointer none, .int .i64 E]) (by simp [results, Tryd.results9, go_sem] <;> first | done | rfl) rfl ⟨rfl, by go_grown⟩
set_option maxRecDepth 100000 in
set_option maxHeartbeats 2000000 in
theorem newt_good (P : Pol) (hl : P.s.length ≤ 1000 ∧ P.k.length ≤ 1000) (v : Value) (w : World) (hv : HoldsP w v P) (hc : checkM P = 0) :
    Calls Tryd.prog 9 #[v] w (NewtEnd w P) := by
  obtain ⟨hgs, hgk⟩ := good_of hc
  have HC := Lib.hid (fun W (hb : Below w.heap.size w W) => check_c P hl v W (hv.below hb))
  rw [hc] at HC
  have HS := Lib.hid (fun W (hb : Below w.heap.size w W) => sorted_c P ⟨by omega, by omega⟩ v W (hv.below hb))
  have HF := Lib.hid (fun tb x y W (h : Tb tb x y P.d P.t nilF nilF W) (h1 : Left9 tb W x (sortS P.s)) (h2 : Left9 tb W y (sortS P.k)) =>
    fill_c (sortS P.s) (sortS P.k) (fun z hz => by have := hgs.sort.lies z hz; omega) (fun z hz => by have := hgk.sort.lies z hz; omega) tb x y P.d P.t W h h1 h2)
  rw [show fillF nilF (sortS P.s) = bitsR P.s from funext hgs.fill, show fillF nilF (sortS P.k) = bitsR P.k from funext hgk.fill] at HF
  obtain ⟨v1, v2, rfl, h1, h2⟩ := hv
  unfold AnsP at HS
  simp only [sortP] at HS
  clear h1 h2 hc hgs hgk
  have HZ0 := fun x y z t => built_tab x y z t
  have HA0 := fun x y => Ta.fresh x y P.d P.t
  generalize tabA = T at HZ0 HA0
  have HZ := Lib.hid HZ0
  have HA := Lib.hid HA0
  clear HZ0 HA0
  go_enter Tryd.func9, Tryd.ntmps9
  go_wp2_with fail
  ((with_reducible refine (HC.out _ (by go_grown)).mono ?_); rintro _ u1 ⟨rfl, hb⟩)
  have T : CC u1 w.heap.size 0 1 (v1) (v2) ∧ CC u1 w.heap.size 2 3 (.int .i64 P.d) (.int .i64 P.t) := by
      refine ⟨⟨?_, ?_⟩, ⟨?_, ?_⟩⟩ <;> refine kc hb ?_ <;> (go_simp; first | done | rfl)
  have hz := hb.size
  (try simp only [World.size_alloc, World.size_setCell, World.size_drew] at hz)
  have L : w.heap.size < u1.heap.size := by omega
  have hB' : Below w.heap.size w u1 := by
      refine kb ?_ hb
      go_grown
  clear hb hz
  obtain ⟨⟨hp_0, hp_1⟩, ⟨hp_2, hp_3⟩⟩ := T
  have hlp := L; clear L
  obtain ⟨hnp0, hnp1, hkp1, hnp2, hkp2⟩ := ap0 hlp
  have hB := hB'; clear hB'
  have hsz := hB.size
  go_wp2_with fail
  ((with_reducible refine (HS.out _ hB).mono ?_); rintro _ u2 ⟨x, y, rfl, hx, hy, gx, gy, hb⟩)
  have hs_u2 := Lib.hid hb
  have T : CC u2 w.heap.size 0 1 (v1) (v2) ∧ CC u2 w.heap.size 2 3 (.int .i64 P.d) (.int .i64 P.t) := by
      refine ⟨⟨?_, ?_⟩, ⟨?_, ?_⟩⟩ <;> refine kc hb ?_ <;> (go_simp; first | done | rfl)
  have hz := hb.size
  (try simp only [World.size_alloc, World.size_setCell, World.size_drew] at hz)
  have L : w.heap.size < u2.heap.size := by omega
  have hB' : Below w.heap.size w u2 := by
      refine kb ?_ hb
      go_grown
  clear hp_0 hp_1 hp_2 hp_3 hlp hnp0 hnp1 hkp1 hnp2 hkp2 hB hsz
  clear hb hz
  obtain ⟨⟨hp_0, hp_1⟩, ⟨hp_2, hp_3⟩⟩ := T
  have hlp := L; clear L
  obtain ⟨hnp0, hnp1, hkp1, hnp2, hkp2⟩ := ap0 hlp
  have hB := hB'; clear hB'
  have hsz := hB.size
  have hbz := hs_u2.out.size
  have HX := Lib.hid (And.intro hx (And.intro hy (And.intro gx gy)))
  clear hx hy gx gy
  go_wp2_with (first
    | refine run_built rfl 69 #[(0, .tmp 12)] rfl [(0, .agg #[x, y, .int .i64 P.d, .int .i64 P.t])] (T x y (.int .i64 P.d) (.int .i64 P.t)) (by simp [Act.eval]) (HZ.out _ _ _ _) ?_
    | refine run_boxed rfl 69 (.tmp 13) rfl (T x y (.int .i64 P.d) (.int .i64 P.t)) (by simp [Act.eval, Act.put]) ?_)
  have hT3 : Tb u2.heap.size x y P.d P.t nilF nilF (u2.alloc (.cells (T x y (.int .i64 P.d) (.int .i64 P.t)) 69)) := ⟨_, _, heap_alloc_new _ _, HA.out x y⟩
  have hBa : Below u2.heap.size u2 (u2.alloc (.cells (T x y (.int .i64 P.d) (.int .i64 P.t)) 69)) := (Below.refl _ _).alloc (Nat.le_refl _) _
  have HC3 := Lib.hid (HF.out u2.heap.size x y _ hT3 ((Left9.of HX.out.1 (Nat.le_refl _)).below hBa) ((Left9.of HX.out.2.1 (Nat.le_refl _)).below hBa))
  have HBa := Lib.hid hBa
  clear hT3 hBa
  refine HC3.out.mono ?_
  rintro _ u3 ⟨⟨v, rfl⟩, hg, hT⟩
  have hBu : Below u2.heap.size u2 u3 := below_grown9 HBa.out hg (Nat.le_refl _)
  have HE := Lib.hid (show Tp u2.heap.size P u3 from ⟨x, y, hT, HX.out.1.below hBu, HX.out.2.1.below hBu⟩)
  have HB3 := Lib.hid (show Below w.heap.size w u3 from hB.trans (hBu.mono hsz))
  clear hg hT hBu
  go_wp2
  refine bodyPost_ret (v := .tuple #[.pointer (some ⟨u2.heap.size, 0, none⟩), .int .i64 0]) (by simp [results, Tryd.results9, go_sem] <;> first | done | rfl) rfl ⟨_, rfl, HB3.out, HE.out, hsz⟩
set_option maxRecDepth 100000 in
theorem secretn9_c (a : Int) (w : World) : Calls Tryd.prog 16 #[.pointer none, .int .i64 a] w fun e w' => e = .returned (.int .u8 0) ∧ Below w.heap.size w w' := by
  go_enter Tryd.func16, Tryd.ntmps16
  go_wp2
  go_ret
  exact ⟨rfl, by go_grown⟩
set_option maxRecDepth 100000 in
theorem sinkn9_c (a : Int) (w : World) : Calls Tryd.prog 22 #[.pointer none, .int .i64 a] w fun e w' => e = .returned (.int .u8 0) ∧ Below w.heap.size w w' := by
  go_enter Tryd.func22, Tryd.ntmps22
  go_wp2
  go_ret
  exact ⟨rfl, by go_grown⟩
theorem of_bits {P : Pol} (hc : checkM P = 0) (a : Int) : ofF (bitsR P.s) a = bitsR P.s a ∧ ofF (bitsR P.k) a = bitsR P.k a := by
  obtain ⟨h1, h2⟩ := good_of hc
  unfold ofF
  by_cases h : 0 ≤ a ∧ a < 65536
  · rw [if_pos h, if_pos h]; exact ⟨rfl, rfl⟩
  · rw [if_neg h, if_neg h, bits_out h1 h, bits_out h2 h]; exact ⟨rfl, rfl⟩
set_option maxRecDepth 100000 in
theorem secretp9_c {P : Pol} (hc : checkM P = 0) (a : Int) (tb : Nat) (w : World) (h : Tp tb P w) : Calls Tryd.prog 16 #[.pointer (some ⟨tb, 0, none⟩), .int .i64 a] w fun e w' => e = .returned (.int .u8 (bitsR P.s a)) ∧ Below w.heap.size w w' := by
  obtain ⟨x, y, hT, _, _⟩ := h.row
  have HO := Lib.hid (of_c (bitsR P.s) tb 4 a w hT.sec)
  rw [(of_bits hc a).1] at HO
  clear h hT
  go_enter Tryd.func16, Tryd.ntmps16
  go_wp2_with fail
  ((with_reducible refine (HO.out).mono ?_); rintro _ u1 ⟨rfl, hb⟩)
  have hz := hb.size
  (try simp only [World.size_alloc, World.size_setCell, World.size_drew] at hz)
  have hB' : Below w.heap.size w u1 := by
      refine kb ?_ hb
      go_grown
  clear hb hz
  have hB := hB'; clear hB'
  have hsz := hB.size
  go_wp2
  go_ret
  exact ⟨rfl, by go_grown⟩
set_option maxRecDepth 100000 in
theorem sinkp9_c {P : Pol} (hc : checkM P = 0) (a : Int) (tb : Nat) (w : World) (h : Tp tb P w) : Calls Tryd.prog 22 #[.pointer (some ⟨tb, 0, none⟩), .int .i64 a] w fun e w' => e = .returned (.int .u8 (bitsR P.k a)) ∧ Below w.heap.size w w' := by
  obtain ⟨x, y, hT, _, _⟩ := h.row
  have HO := Lib.hid (of_c (bitsR P.k) tb 65540 a w hT.snk)
  rw [(of_bits hc a).2] at HO
  clear h hT
  go_enter Tryd.func22, Tryd.ntmps22
  go_wp2_with fail
  ((with_reducible refine (HO.out).mono ?_); rintro _ u1 ⟨rfl, hb⟩)
  have hz := hb.size
  (try simp only [World.size_alloc, World.size_setCell, World.size_drew] at hz)
  have hB' : Below w.heap.size w u1 := by
      refine kb ?_ hb
      go_grown
  clear hb hz
  have hB := hB'; clear hB'
  have hsz := hB.size
  go_wp2
  go_ret
  exact ⟨rfl, by go_grown⟩
set_option maxRecDepth 100000 in
theorem leaks9_c (p : Option Addr) (K a v t : Int) (w : World) (h : ∀ W, Below w.heap.size w W → Calls Tryd.prog 22 #[.pointer p, .int .i64 a] W fun e w' => e = .returned (.int .u8 K) ∧ Below W.heap.size W w') :
    Calls Tryd.prog 23 #[.pointer p, .int .i64 a, .agg #[.int .u8 v, .int .u8 t]] w fun e w' => e = .returned (.int .u8 (bits .and .u8 t K)) ∧ Below w.heap.size w w' := by
  have HH := Lib.hid h
  clear h
  go_enter Tryd.func23, Tryd.ntmps23
  go_wp2_with fail
  refine wp_region_plan (fun w' => w'.cell? ⟨w.heap.size, 0, none⟩ = some (.int .u8 v) ∧ w'.cell? ⟨w.heap.size, 1, none⟩ = some (.int .u8 t) ∧ Below w.heap.size w w') (by kernel_rfl) (by kernel_rfl) (by kernel_rfl) ?_ ?_
  · (try dsimp only)
    refine ⟨?_, ?_, ?_⟩ <;> first | (go_simp; done) | (simp [*]; done) | go_grown
  repeat (first
    | (refine Plan.val (v := ?_) ?_ ?_ ?_; rotate_left; (· rfl); (· (intro W hSw; (try dsimp only at hSw); go_simp; all_goals (first | (with_reducible rfl) | (constructor <;> (with_reducible rfl)) | (rw [if_neg (by omega)]; done) | (rw [if_neg (by omega)]; with_reducible rfl)))); (try simp only [Act.put, List.setIfInBounds_toArray, List.set_cons_zero, List.set_cons_succ]))
    | (refine Plan.no ?_ ?_; (· rfl); (try simp only [Act.put, List.setIfInBounds_toArray, List.set_cons_zero, List.set_cons_succ]))
    | (refine Plan.call (v := ?_) (f := ?_) (args := ?_) ?_ ?_ ?_ ?_; rotate_left 3; (· rfl); (· (intro W hSw; (try dsimp only at hSw); go_simp; all_goals (first | (with_reducible rfl) | (constructor <;> (with_reducible rfl)) | (rw [if_neg (by omega)]; done) | (rw [if_neg (by omega)]; with_reducible rfl)))); (· (intro W hSw; (try dsimp only at hSw); first | (go_at_call 22; ((with_reducible refine (HH.out _ hSw.2.2).mono ?_); rintro _ wz ⟨rfl, hb⟩; (refine ⟨?_, ?_⟩; (· with_reducible rfl); exact ⟨kc hb hSw.1, kc hb hSw.2.1, kb hSw.2.2 hb⟩))))); (try simp only [Act.put, List.setIfInBounds_toArray, List.set_cons_zero, List.set_cons_succ])))
  refine Plan.done ?_
  intro u1 T
  (try dsimp only at T)
  obtain ⟨hb_0, hb_1, hB⟩ := T
  have hsz := hB.size
  have hlb := klt hb_0
  obtain ⟨hnb0, hnb1, hkb1, hnb2, hkb2⟩ := ap0 hlb
  go_wp2
  go_ret
  exact ⟨rfl, by go_grown⟩
end Go.Proofs.YtcilnbkmaoneaaaDoor
