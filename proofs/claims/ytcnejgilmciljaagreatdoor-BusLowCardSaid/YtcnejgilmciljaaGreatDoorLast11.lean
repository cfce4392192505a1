/-
  The program: Label.
  The program: New, Clone.
  The program's slices.Clone, of each kind.
  The program's secrets: bytes made secret.
  The program's last, of each kind.
-/
import Derived.Test.YtcnejgilmciljaaGreatDoorLoadp8
import Derived.Deep.WholeRow
import Derived.Test.YtcnejgilmciljaaGreatDoorObj11
import Derived.Deep.LoopGhost
set_option linter.unusedSimpArgs false
set_option linter.unusedVariables false
namespace Go.Proofs.YtcnejgilmciljaaGreatDoor
open Go.RowKit Go.PlainAid

theorem labelM_snoc (k : Nat) (M : Int → Int × Int) (a t : Int) : labelM (k + 1) M a t = setM (labelM k M a t) (a + (k : Int)) ((labelM k M a t (a + (k : Int))).1, t) := by
  funext x
  unfold setM
  rw [labelM_at, labelM_at, labelM_at]
  by_cases e : x = a + (k : Int)
  · subst e
    rw [if_pos rfl, if_pos (by omega), if_neg (by omega)]
  · rw [if_neg e]
    by_cases hx : a ≤ x ∧ x < a + (k : Int)
    · rw [if_pos hx, if_pos (by omega)]
    · rw [if_neg hx, if_neg (by omega)]
def labelMp (M : Int → Int × Int) (f t tt : Int) : Int × (Int → Int × Int) := if onlyB f t = true then (0, labelM (t - f + 1).toNat M f tt) else (10, M)
set_option maxRecDepth 100000 in
theorem labeln_c (f t tt : Int) (w : World) : Calls Tryz.prog 35 #[.pointer none, .int .i64 f, .int .i64 t, .int .u8 tt] w fun e w' => e = .returned (.int .i64 2) ∧ Below w.heap.size w w' := by
  go_enter Tryz.func35, Tryz.ntmps35
  go_wp2
  go_ret
  exact ⟨rfl, by go_grown⟩
set_option maxRecDepth 100000 in
set_option maxHeartbeats 2000000 in
theorem labelp_c (M : Int → Int × Int) (f t tt : Int) (mb bb : Nat) (w : World) (hP : Pm mb bb w M) (hL : Laid w) :
    Calls Tryz.prog 35 #[.pointer (some ⟨mb, 0, none⟩), .int .i64 f, .int .i64 t, .int .u8 tt] w (MemEnd mb bb w (labelMp M f t tt).1 (labelMp M f t tt).2) := by
  obtain ⟨R, hR⟩ : ∃ R, labelMp M f t tt = R := ⟨_, rfl⟩
  rw [hR]
  have HR := Lib.hid hR
  clear hR
  unfold labelMp at HR
  have HP := Lib.hid hP
  have hm_0 := hP.c0
  have hmw : mb < w.heap.size := klt hm_0
  have hbw := hP.lt
  have HK := Lib.hid (fun W (hb : Below w.heap.size w W) => onep_c f t W (hL.below hb))
  have HA := Lib.hid (show onlyB f t = true → 0 ≤ f ∧ f ≤ t ∧ t < 65536 from onlyB_real)
  obtain ⟨O, hO⟩ : ∃ O, onlyB f t = O := ⟨_, rfl⟩
  rw [hO] at HR HA HK
  clear hP hO
  go_enter Tryz.func35, Tryz.ntmps35
  go_wp2_with fail
  ((with_reducible refine (HK.out _ (by go_grown)).mono ?_); rintro _ u1 ⟨rfl, hb⟩)
  have T : u1.cell? ⟨mb, 0, none⟩ = some (.pointer (some ⟨bb, 0, none⟩)) := by
      refine kc hb ?_ <;> (go_simp; first | done | rfl)
  have hz := hb.size
  (try simp only [World.size_alloc, World.size_setCell, World.size_drew] at hz)
  have L : mb < u1.heap.size := by omega
  have hB' : Below w.heap.size w u1 := by
      refine kb ?_ hb
      go_grown
  clear hb hz
  have hm_0 := T; clear T
  have hlm := L; clear L
  obtain ⟨hnm0, hnm1, hkm1, hnm2, hkm2⟩ := ap0 hlm
  have hB := hB'; clear hB'
  have hsz := hB.size
  cases O
  · have HF := Lib.hid (show R = (10, M) from by rw [← HR.out]; rfl)
    go_wp2
    go_ret
    exact memEnd_same HF.out HP.out hB
  · have HF := Lib.hid (show R = (0, labelM (t - f + 1).toNat M f tt) from by rw [← HR.out]; rfl)
    obtain ⟨hf0, hft, ht6⟩ := HA.out rfl
    obtain ⟨N, hN⟩ : ∃ N, (t - f + 1).toNat = N := ⟨_, rfl⟩
    obtain rfl : t = f + (N : Int) - 1 := by omega
    rw [hN] at HF
    have HAA := Lib.hid (And.intro hf0 (And.intro hft ht6))
    have HPd := Lib.hid (HP.out.below hB)
    have HBd := Lib.hid (show w.grownBy u1 (some bb) from grown_below hB)
    clear hN hf0 hft ht6 HR HA HK
    go_wp2_with fail
    go_loopw [9] (fun s9 wr => ∃ k : Nat, k ≤ N ∧ s9 = .int .i64 (f + (k : Int)) ∧ Hid (Pm mb bb wr (labelM k M f tt)) ∧ Hid (w.grownBy wr (some bb))) (fun i _ => (f + (N : Int) - intOf i).toNat)
    case atStart => exact ⟨0, Nat.zero_le _, by simp, Lib.hid HPd.out, HBd⟩
    case round =>
      obtain ⟨k, hk, rfl, HPr, HGr⟩ := hrel
      clear hB hsz hlm hnm0 hnm1 hkm1 hnm2 hkm2 hm_0
      by_cases hlt2 : k < N
      · have hd : decide (f + (k : Int) ≤ f + (N : Int) - 1) = true := decide_eq_true (by omega)
        obtain ⟨j, hj⟩ : ∃ j : Nat, f + (k : Int) = (j : Int) := ⟨(f + (k : Int)).toNat, by have := HAA.out; omega⟩
        have hj6 : j < 65536 := by have := HAA.out; omega
        have HS := Lib.hid (show labelM (k + 1) M f tt = setM (labelM k M f tt) (j : Int) ((labelM k M f tt (j : Int)).1, tt) from by rw [labelM_snoc, hj])
        have hw1 : IntKind.i64.wrap ((j : Int) + 1) = (j : Int) + 1 := IntWalk.i64_in _ (by omega)
        have hin2 : (0 : Int) ≤ (j : Int) ∧ (j : Int) < 65536 := by omega
        have HJ := Lib.hid hj
        have hmr_0 := HPr.out.c0
        have y1 := HPr.out.at1 j hj6
        have z1 := HPr.out.free (j * 2 + 1)
        have hbr := HPr.out.lt
        rw [hj] at hd ⊢
        clear hj
        go_wp2
        go_roundw
        case rel => exact ⟨k + 1, by omega, by have := HJ.out; congr 1; omega, Lib.hid (by rw [HS.out]; exact HPr.out.set1 j hj6 tt), Lib.hid (grown_set8 HGr.out)⟩
        case measure => have := HJ.out; simp [intOf] <;> omega
      · have hkm : k = N := by omega
        have hd : decide (f + (k : Int) ≤ f + (N : Int) - 1) = false := decide_eq_false (by omega)
        have HFIN := Lib.hid (show Pm mb bb wr (labelM N M f tt) from by have := HPr.out; rw [hkm] at this; exact this)
        go_wp2
        go_ret
        have hf := HF.out
        subst hf
        exact ⟨rfl, HGr.out, HFIN.out⟩
end Go.Proofs.YtcnejgilmciljaaGreatDoor
set_option linter.unusedSimpArgs false
set_option linter.unusedVariables false
namespace Go.Proofs.YtcnejgilmciljaaGreatDoor
open Go.RowKit Go.PlainAid

theorem wpList_store_new {P : Program} {ops : Array Oper} {rest : List Oper} {o : Oper} {a : Act} {w : World} {Q : Exit → Act → World → Prop} {t : TypeId} {Z : Array Value} (hgd : o.guard = none) (ty : TypeId) (x y : Operand) (ho : o.op = .store ty x y)
    (hd : o.dst = none) (A : Array Value) (hx : a.eval x = .pointer (some ⟨w.heap.size, 0, none⟩)) (hy : a.eval y = .agg A) (hi : (P.info? ty).map (·.size) = some A.size) (hold : Z.size = A.size) (h1 : A.all (·.oneCell') = true)
    (h : wpList P ops Q rest a (w.alloc (.cells A t))) : wpList P ops Q (o :: rest) a (w.alloc (.cells Z t)) :=
  wpList_store_row hgd ty x y ho w.heap.size A hx hy t Z (heap_alloc_new _ _) hi hold h1 (by rw [hd, World.setRow_alloc_new]; exact h)
/-- What a call that makes a memory answers: two new blocks. -/
def NewEnd (w : World) (M : Int → Int × Int) : Ending → World → Prop := fun e w' => e = .returned (.pointer (some ⟨w.heap.size + 1, 0, none⟩)) ∧ Below w.heap.size w w' ∧ Pm (w.heap.size + 1) w.heap.size w' M
theorem newEnd_of {w : World} {M : Int → Int × Int} {A : Array Value} {x : Obj} {t : TypeId} (hA : Ar A M) (hx : x = .cells #[.pointer (some ⟨w.heap.size, 0, none⟩)] 120) (h0 : 0 < w.heap.size) :
    NewEnd w M (.returned (.pointer (some ⟨w.heap.size + 1, 0, none⟩))) ((w.alloc (.cells A t)).alloc x) := by
  subst hx
  refine ⟨rfl, by go_grown, ⟨by go_simp, ⟨A, t, ?_, hA⟩, by omega, by omega⟩⟩
  rw [heap_alloc_old _ _ (by simp), heap_alloc_new]
set_option maxRecDepth 100000 in
theorem newp_c (w : World) (h0 : 0 < w.heap.size) : Calls Tryz.prog 32 #[] w (NewEnd w (fun _ => (0, 0))) := by
  have hz := fun W => zeroArr W
  have HZ := Lib.hid Ar.zero
  generalize zeroA = Z at *
  go_enter Tryz.func32, Tryz.ntmps32
  go_wp2
  go_ret
  exact newEnd_of (A := Z) (x := .cells #[.pointer (some ⟨w.heap.size, 0, none⟩)] 120) HZ.out rfl h0
set_option maxRecDepth 100000 in
theorem clonen_c (w : World) : Calls Tryz.prog 63 #[.pointer none] w fun e w' => e = .returned (.pointer none) ∧ Below w.heap.size w w' := by
  go_enter Tryz.func63, Tryz.ntmps63
  go_wp2
  go_ret
  exact ⟨rfl, by go_grown⟩
set_option maxRecDepth 100000 in
theorem clonep_c (M : Int → Int × Int) (mb bb : Nat) (w : World) (hP : Pm mb bb w M) : Calls Tryz.prog 63 #[.pointer (some ⟨mb, 0, none⟩)] w (NewEnd w M) := by
  have hz := fun W => zeroArr W
  have hzs := Ar.zero.sz
  have hbw := hP.lt
  have hb0 := hP.nz
  have hm_0 := hP.c0
  have hmw : mb < w.heap.size := klt hm_0
  obtain ⟨A, t, hrow, hA⟩ := hP.row
  have HA := Lib.hid hA
  have hzA : zeroA.size = A.size := by rw [hzs, hA.sz]
  have hsz : (Tryz.prog.info? 128).map (·.size) = some A.size := by rw [size_arr, hA.sz]
  have hone := hA.one
  have HS := Lib.hid (And.intro hzA (And.intro hsz hone))
  clear hzA hsz hone hzs
  generalize zeroA = Z at *
  clear hP hA
  go_enter Tryz.func63, Tryz.ntmps63
  go_wp2_with (first
    | refine wpList_load_row rfl 128 _ rfl bb rfl t A (0, 0) _ hrow under_arr rfl HS.out.2.1 ?_
    | refine wpList_store_new rfl 128 _ _ rfl rfl A rfl rfl HS.out.2.1 HS.out.1 HS.out.2.2 ?_)
  go_ret
  exact newEnd_of (A := A) (x := .cells #[.pointer (some ⟨w.heap.size, 0, none⟩)] 120) HA.out rfl (by omega)
end Go.Proofs.YtcnejgilmciljaaGreatDoor
set_option linter.unusedSimpArgs false
set_option linter.unusedVariables false
namespace Go.Proofs.YtcnejgilmciljaaGreatDoor
open Go.RowKit Go.PlainAid

theorem Tryz.infoEn : (Tryz.prog.info? 109).map (fun i => (i.zero, i.size, i.bytes)) = some (some (.agg #[.int .i64 0, .int .u8 0]), 2, 16) := by kernel_rfl
theorem kca {w u : World} (hb : Below w.heap.size w u) {p : Addr} {v : Value} (h : w.cell? p = some v) : u.cell? p = some v := by
  have hl : p.block < w.heap.size := by
    unfold World.cell? at h
    split at h
    · rename_i hh
      exact (Array.getElem?_eq_some_iff.1 hh).1
    · cases h
  exact (hb.cell hl).trans h
set_option maxRecDepth 100000 in
theorem clone_b (l : List (Int)) (hl : l.length ≤ 100000) (v : Value) (w : World) (hv : HoldsW bE 1 w v l) :
    Calls Tryz.prog 66 #[v] w fun e w' => ∃ v', e = .returned v' ∧ w'.ownsRow w.heap.size 5 1 v' l.length (l.flatMap bE) ∧ Below w.heap.size w w' := by
  obtain ⟨p, c, rfl⟩ := hv.form
  have hq1 : ∀ (n c : Nat) (W : World), (binOp .eql 25 (.slice none n c) (.slice none 0 0)).run Tryz.prog W = .ok (.bool true) W := fun n c W => by kernel_rfl
  have hq2 : ∀ (ad : Addr) (n c : Nat) (W : World), (binOp .eql 25 (.slice (some ad) n c) (.slice none 0 0)).run Tryz.prog W = .ok (.bool false) W := fun ad n c W => by kernel_rfl
  cases p with
  | none =>
    have h0 : l = [] := by
      rcases hv with ⟨_, e⟩ | ⟨g, o, cap, e, _⟩
      · exact e
      · cases e
    subst h0
    clear hv hq2
    have hq := hq1 0 c
    clear hq1
    go_enter Tryz.func66, Tryz.ntmps66
    go_wp2
    go_ret
    exact ⟨_, rfl, World.ownsRow_nil _ _ _ _, by go_grown⟩
  | some ad =>
    obtain ⟨g, o, sp⟩ := ad
    have hs : ∀ j u, (l.flatMap bE)[j]? = some u → w.cell? ((⟨g, o, sp⟩ : Addr).add j) = some u := by
      rcases hv with ⟨_, e⟩ | ⟨g', o', cap, e, _, hc⟩
      · subst e; intro j u hu; simp at hu
      · injection e with e1 e2 e3
        injection e1 with e1
        cases e1
        exact holds_flat bE_len (by omega) hc
    have HC := Lib.hid hs
    obtain ⟨n, hn⟩ : ∃ n, l.length = n := ⟨_, rfl⟩
    have HN := Lib.hid (And.intro hn hl)
    clear hv hs hl hq1
    rw [hn]
    clear hn
    have hq := hq2 ⟨g, o, sp⟩ n c
    clear hq2
    obtain ⟨i0, hi, hz0, hz1, hz2⟩ := info_parts Tryz.infoU8
    go_enter Tryz.func66, Tryz.ntmps66
    go_wp2_with (at_builtin; refine wpList_append_own _ rfl _ _ 25 rfl w.heap.size 5 i0 _ 1 1 Tryz.underlying25 hi hz0 hz1 hz2 rfl (by decide) _ 0 [] rfl ?c0 ⟨g, o, sp⟩ n c (l.flatMap bE) rfl ?c1 ?c2 ?c3 ?c4 ?c5 ?c6 ?_)
    case c0 => exact ⟨rfl, .inr ⟨w.heap.size, 0, #[], rfl, Nat.le_refl _, heap_alloc_new _ _, Nat.le_refl _, by decide, rfl, rfl⟩⟩
    case c1 => rw [flat_len8 bE_len, HN.out.1]
    case c2 =>
      intro j u hu
      exact kca ((Below.refl _ w).alloc (Nat.le_refl _) _) (HC.out j u hu)
    case c3 => exact one_cells8 bE_one _
    case c4 => have := HN.out; unfold maxLen; omega
    case c5 => have := HN.out; omega
    case c6 => simp
    intro v' w' hown' hg hnn
    have hBw : Below w.heap.size w w' := Below.grown ((Below.refl _ w).alloc (Nat.le_refl _) _) hg (by simp) (fun k hk => by cases hk; exact Nat.le_refl _)
    have HO := Lib.hid hown'
    have hf := own_form hown'
    obtain ⟨p', c', rfl⟩ := hf
    clear hown' hg hnn
    go_wp2
    go_ret
    exact ⟨_, rfl, by simpa using HO.out, hBw⟩
set_option maxRecDepth 100000 in
theorem clone_k (l : List (Int × Int)) (hl : l.length ≤ 100000) (v : Value) (w : World) (hv : HoldsW kE 2 w v l) :
    Calls Tryz.prog 83 #[v] w fun e w' => ∃ v', e = .returned v' ∧ w'.ownsRow w.heap.size 49 2 v' l.length (l.flatMap kE) ∧ Below w.heap.size w w' := by
  obtain ⟨p, c, rfl⟩ := hv.form
  have hq1 : ∀ (n c : Nat) (W : World), (binOp .eql 40 (.slice none n c) (.slice none 0 0)).run Tryz.prog W = .ok (.bool true) W := fun n c W => by kernel_rfl
  have hq2 : ∀ (ad : Addr) (n c : Nat) (W : World), (binOp .eql 40 (.slice (some ad) n c) (.slice none 0 0)).run Tryz.prog W = .ok (.bool false) W := fun ad n c W => by kernel_rfl
  cases p with
  | none =>
    have h0 : l = [] := by
      rcases hv with ⟨_, e⟩ | ⟨g, o, cap, e, _⟩
      · exact e
      · cases e
    subst h0
    clear hv hq2
    have hq := hq1 0 c
    clear hq1
    go_enter Tryz.func83, Tryz.ntmps83
    go_wp2
    go_ret
    exact ⟨_, rfl, World.ownsRow_nil _ _ _ _, by go_grown⟩
  | some ad =>
    obtain ⟨g, o, sp⟩ := ad
    have hs : ∀ j u, (l.flatMap kE)[j]? = some u → w.cell? ((⟨g, o, sp⟩ : Addr).add j) = some u := by
      rcases hv with ⟨_, e⟩ | ⟨g', o', cap, e, _, hc⟩
      · subst e; intro j u hu; simp at hu
      · injection e with e1 e2 e3
        injection e1 with e1
        cases e1
        exact holds_flat kE_len (by omega) hc
    have HC := Lib.hid hs
    obtain ⟨n, hn⟩ : ∃ n, l.length = n := ⟨_, rfl⟩
    have HN := Lib.hid (And.intro hn hl)
    clear hv hs hl hq1
    rw [hn]
    clear hn
    have hq := hq2 ⟨g, o, sp⟩ n c
    clear hq2
    obtain ⟨i0, hi, hz0, hz1, hz2⟩ := info_parts Tryz.infoBy
    go_enter Tryz.func83, Tryz.ntmps83
    go_wp2_with (at_builtin; refine wpList_append_own _ rfl _ _ 40 rfl w.heap.size 49 i0 _ 2 2 Tryz.underlying40 hi hz0 hz1 hz2 rfl (by decide) _ 0 [] rfl ?c0 ⟨g, o, sp⟩ n c (l.flatMap kE) rfl ?c1 ?c2 ?c3 ?c4 ?c5 ?c6 ?_)
    case c0 => exact ⟨rfl, .inr ⟨w.heap.size, 0, #[], rfl, Nat.le_refl _, heap_alloc_new _ _, Nat.le_refl _, by decide, rfl, rfl⟩⟩
    case c1 => rw [flat_len8 kE_len, HN.out.1]
    case c2 =>
      intro j u hu
      exact kca ((Below.refl _ w).alloc (Nat.le_refl _) _) (HC.out j u hu)
    case c3 => exact one_cells8 kE_one _
    case c4 => have := HN.out; unfold maxLen; omega
    case c5 => have := HN.out; omega
    case c6 => simp
    intro v' w' hown' hg hnn
    have hBw : Below w.heap.size w w' := Below.grown ((Below.refl _ w).alloc (Nat.le_refl _) _) hg (by simp) (fun k hk => by cases hk; exact Nat.le_refl _)
    have HO := Lib.hid hown'
    have hf := own_form hown'
    obtain ⟨p', c', rfl⟩ := hf
    clear hown' hg hnn
    go_wp2
    go_ret
    exact ⟨_, rfl, by simpa using HO.out, hBw⟩
set_option maxRecDepth 100000 in
theorem clone_e (l : List (Int × Int)) (hl : l.length ≤ 100000) (v : Value) (w : World) (hv : HoldsW eE 2 w v l) :
    Calls Tryz.prog 82 #[v] w fun e w' => ∃ v', e = .returned v' ∧ w'.ownsRow w.heap.size 109 2 v' l.length (l.flatMap eE) ∧ Below w.heap.size w w' := by
  obtain ⟨p, c, rfl⟩ := hv.form
  have hq1 : ∀ (n c : Nat) (W : World), (binOp .eql 104 (.slice none n c) (.slice none 0 0)).run Tryz.prog W = .ok (.bool true) W := fun n c W => by kernel_rfl
  have hq2 : ∀ (ad : Addr) (n c : Nat) (W : World), (binOp .eql 104 (.slice (some ad) n c) (.slice none 0 0)).run Tryz.prog W = .ok (.bool false) W := fun ad n c W => by kernel_rfl
  cases p with
  | none =>
    have h0 : l = [] := by
      rcases hv with ⟨_, e⟩ | ⟨g, o, cap, e, _⟩
      · exact e
      · cases e
    subst h0
    clear hv hq2
    have hq := hq1 0 c
    clear hq1
    go_enter Tryz.func82, Tryz.ntmps82
    go_wp2
    go_ret
    exact ⟨_, rfl, World.ownsRow_nil _ _ _ _, by go_grown⟩
  | some ad =>
    obtain ⟨g, o, sp⟩ := ad
    have hs : ∀ j u, (l.flatMap eE)[j]? = some u → w.cell? ((⟨g, o, sp⟩ : Addr).add j) = some u := by
      rcases hv with ⟨_, e⟩ | ⟨g', o', cap, e, _, hc⟩
      · subst e; intro j u hu; simp at hu
      · injection e with e1 e2 e3
        injection e1 with e1
        cases e1
        exact holds_flat eE_len (by omega) hc
    have HC := Lib.hid hs
    obtain ⟨n, hn⟩ : ∃ n, l.length = n := ⟨_, rfl⟩
    have HN := Lib.hid (And.intro hn hl)
    clear hv hs hl hq1
    rw [hn]
    clear hn
    have hq := hq2 ⟨g, o, sp⟩ n c
    clear hq2
    obtain ⟨i0, hi, hz0, hz1, hz2⟩ := info_parts Tryz.infoEn
    go_enter Tryz.func82, Tryz.ntmps82
    go_wp2_with (at_builtin; refine wpList_append_own _ rfl _ _ 104 rfl w.heap.size 109 i0 _ 2 16 Tryz.underlying104 hi hz0 hz1 hz2 rfl (by decide) _ 0 [] rfl ?c0 ⟨g, o, sp⟩ n c (l.flatMap eE) rfl ?c1 ?c2 ?c3 ?c4 ?c5 ?c6 ?_)
    case c0 => exact ⟨rfl, .inr ⟨w.heap.size, 0, #[], rfl, Nat.le_refl _, heap_alloc_new _ _, Nat.le_refl _, by decide, rfl, rfl⟩⟩
    case c1 => rw [flat_len8 eE_len, HN.out.1]
    case c2 =>
      intro j u hu
      exact kca ((Below.refl _ w).alloc (Nat.le_refl _) _) (HC.out j u hu)
    case c3 => exact one_cells8 eE_one _
    case c4 => have := HN.out; unfold maxLen; omega
    case c5 => have := HN.out; omega
    case c6 => simp
    intro v' w' hown' hg hnn
    have hBw : Below w.heap.size w w' := Below.grown ((Below.refl _ w).alloc (Nat.le_refl _) _) hg (by simp) (fun k hk => by cases hk; exact Nat.le_refl _)
    have HO := Lib.hid hown'
    have hf := own_form hown'
    obtain ⟨p', c', rfl⟩ := hf
    clear hown' hg hnn
    go_wp2
    go_ret
    exact ⟨_, rfl, by simpa using HO.out, hBw⟩
end Go.Proofs.YtcnejgilmciljaaGreatDoor
set_option linter.unusedSimpArgs false
set_option linter.unusedVariables false
namespace Go.Proofs.YtcnejgilmciljaaGreatDoor
open Go.RowKit Go.PlainAid

theorem set2_take (xs : List Value) (m : Nat) (h : m + 1 < xs.length) (a b : Value) : ((xs.set m a).set (m + 1) b).take (m + 2) = xs.take m ++ [a, b] := by
  apply List.ext_getElem?
  intro j
  rw [List.getElem?_take, List.getElem?_append, List.length_take, Nat.min_eq_left (by omega), List.getElem?_take]
  by_cases h1 : j < m
  · rw [if_pos (by omega), if_pos h1, if_pos h1, List.getElem?_set_ne (by omega), List.getElem?_set_ne (by omega)]
  · rw [if_neg h1]
    by_cases h2 : j = m
    · subst h2
      rw [if_pos (by omega), List.getElem?_set_ne (by omega), List.getElem?_set_self (by omega), Nat.sub_self]
      rfl
    · by_cases h3 : j = m + 1
      · subst h3
        rw [if_pos (by omega), List.getElem?_set_self (by rw [List.length_set]; omega), show m + 1 - m = 1 by omega]
        rfl
      · rw [if_neg (by omega), List.getElem?_eq_none (by simp; omega)]
theorem secT_take (l : List Int) (k : Nat) (h : k < l.length) : (secT (l.take (k + 1))).flatMap kE = (secT (l.take k)).flatMap kE ++ [.int .u8 l[k], .int .u8 255] := by
  unfold secT
  rw [← List.take_append_getElem h, List.map_append, List.flatMap_append]
  rfl
set_option maxRecDepth 100000 in
set_option maxHeartbeats 2000000 in
theorem secrets_c (l : List Int) (hl : l.length ≤ 65536) (v : Value) (w : World) (hv : HoldsW bE 1 w v l) :
    Calls Tryz.prog 67 #[v] w fun e w' => ∃ v', e = .returned v' ∧ w'.ownsRow w.heap.size 49 2 v' (secT l).length ((secT l).flatMap kE) ∧ Below w.heap.size w w' := by
  obtain ⟨p, c, rfl⟩ := hv.form
  have H1 := Lib.hid hv
  rw [secT_len]
  obtain ⟨n, hn⟩ : ∃ n, l.length = n := ⟨_, rfl⟩
  rw [hn] at hl ⊢
  have HN := Lib.hid hn
  have HB := Lib.hid (Below.refl w.heap.size w)
  clear hv hn
  obtain ⟨i0, hi, hz0, hz1, hz2⟩ := info_parts Tryz.infoBy
  go_enter Tryz.func67, Tryz.ntmps67
  go_wp2_with (at_make; refine wpList_make_full _ rfl _ _ 40 rfl w.heap.size 49 i0 (.agg #[.int .u8 0, .int .u8 0]) 2 Tryz.underlying40 hi hz0 hz1 _ _ _ _ n rfl rfl rfl rfl ?b2 ?b3 (Nat.le_refl _) ?_)
  case b2 => rw [hz2]; omega
  case b3 => unfold maxLen; omega
  intro w1 hown hg
  have HO := Lib.hid hown
  have HB1 := Lib.hid (Below.grown (Below.refl w.heap.size w) hg (Nat.le_refl _) (fun k hk => by cases hk))
  have hz1' := ((hown.lt w.heap.size rfl)).2
  clear hown hg
  go_wp2_with fail
  go_loopg [11] n (fun kx s11 wr => ∃ k : Nat, s11 = .int .i64 k ∧ k ≤ n ∧ n - k ≤ kx ∧ Hid (Below w.heap.size w wr ∧ ∃ xs, wr.ownsRow w.heap.size 49 2 (.slice (some ⟨w.heap.size, 0, none⟩) n n) n xs ∧ xs.take (k * 2) = (secT (l.take k)).flatMap kE))
  case atStart => exact ⟨0, by simp, Nat.zero_le _, by omega, Lib.hid ⟨HB1.out, _, HO.out, by simp [secT]⟩⟩
  case round =>
    obtain ⟨k, rfl, hk, hkx, HR⟩ := hrel
    by_cases hlt : k < n
    · have hkl : k < l.length := by have := HN.out; omega
      obtain ⟨g1, o1, cap1, e1, _, hc1⟩ := H1.out.some (by omega)
      obtain ⟨rfl, -, rfl⟩ := Value.slice.inj e1
      have x1 := hc1 k _ (List.getElem?_eq_getElem hkl) 0 _ rfl
      rw [Nat.mul_one, Nat.add_zero] at x1
      obtain ⟨hB, xs, hown, htk⟩ := HR.out
      have htk2 := secT_take l k hkl
      have hxl : xs.length = n * 2 := hown.1
      obtain ⟨X, hX⟩ : ∃ X, l[k] = X := ⟨_, rfl⟩
      rw [hX] at x1 htk2
      have hg1 := klt x1
      have x1 := kc hB x1
      have hl1 := klt x1
      have hne1 : ¬ g1 = w.heap.size := by omega
      have y0 := hown.cellAt (k * 2) (by omega)
      have y1 := hown.cellAt (k * 2 + 1) (by omega)
      rw [List.getElem?_eq_getElem (by omega)] at y0 y1
      have z0 := hown.frozenAt (k * 2)
      have z1 := hown.frozenAt (k * 2 + 1)
      have hlw := klt y0
      generalize xs[k * 2] = Y0 at *
      generalize xs[k * 2 + 1] = Y1 at *
      have HS := Lib.hid (show Below w.heap.size w ((wr.setCell ⟨w.heap.size, k * 2, none⟩ (.int .u8 X)).setCell ⟨w.heap.size, k * 2 + 1, none⟩ (.int .u8 255)) ∧ ∃ xs, ((wr.setCell ⟨w.heap.size, k * 2, none⟩ (.int .u8 X)).setCell ⟨w.heap.size, k * 2 + 1, none⟩ (.int .u8 255)).ownsRow w.heap.size 49 2 (.slice (some ⟨w.heap.size, 0, none⟩) n n) n xs ∧ xs.take ((k + 1) * 2) = (secT (l.take (k + 1))).flatMap kE from by
        have s1 := hown.stored (k * 2) (.int .u8 X)
        have s2 := s1.1.stored (k * 2 + 1) (.int .u8 255)
        refine ⟨Below.grown hB (s1.2.trans s2.2) (by omega) (fun j hj => by cases hj; exact Nat.le_refl _), _, s2.1, ?_⟩
        rw [show (k + 1) * 2 = k * 2 + 2 by omega, set2_take _ _ (by omega), htk, htk2])
      have hin : (0 : Int) ≤ (k : Int) ∧ (k : Int) < (n : Int) := by omega
      clear e1 hc1 hkl hB hown htk htk2 hxl hX HR
      go_wp2_with fail
      go_roundg (n - (k + 1))
      case measure => omega
      case rel => exact ⟨k + 1, by go_num, by omega, by omega, HS⟩
    · have hge : (n : Int) ≤ (k : Int) := by omega
      obtain rfl : k = n := by omega
      go_wp2
      go_ret
      obtain ⟨hB, xs, hown, htk⟩ := HR.out
      have hxl : xs.length = k * 2 := hown.1
      rw [← hxl, List.take_length, ← HN.out, List.take_length] at htk
      subst htk
      exact ⟨_, rfl, hown, hB⟩
end Go.Proofs.YtcnejgilmciljaaGreatDoor
set_option linter.unusedSimpArgs false
set_option linter.unusedVariables false
namespace Go.Proofs.YtcnejgilmciljaaGreatDoor
open Go.RowKit Go.PlainAid

set_option maxRecDepth 100000 in
set_option maxHeartbeats 1000000 in
theorem last_b (l : List (Int)) (v : Value) (w : World) (hv : w.ownsRow 0 5 1 v l.length (l.flatMap bE)) :
    Calls Tryz.prog 111 #[v] w fun e w' => e = .returned (.int .u8 (lastI l)) ∧ Below w.heap.size w w' := by
  obtain ⟨p, c, hf⟩ := own_form hv
  by_cases hl : l.length = 0
  · have h0 : l = [] := List.length_eq_zero_iff.1 hl
    subst h0
    rw [hf]
    clear hv hl hf
    dsimp only [List.length_nil]
    go_enter Tryz.func111, Tryz.ntmps111
    go_wp2
    refine bodyPost_ret (v := (.int .u8 0)) (by simp [results, Tryz.results111, go_sem] <;> first | done | rfl) rfl ?_
    exact ⟨rfl, by go_grown⟩
  · obtain ⟨m, hm⟩ : ∃ m, l.length = m + 1 := ⟨l.length - 1, by omega⟩
    obtain ⟨g, cap, e, hmx, hcell⟩ := row_last bE_len hv hm
    have hlast := lastI_snoc l m hm
    obtain ⟨X, hX⟩ : ∃ X, l[m]'(by omega) = X := ⟨_, rfl⟩
    rw [hX] at hlast hcell
    rw [hlast, e]
    have hx0 := hcell 0 _ rfl
    rw [Nat.add_zero] at hx0
    rw [Nat.mul_one] at hx0
    (try dsimp only at hx0)
    have hgl := klt hx0
    obtain ⟨N, hN⟩ : ∃ N, m + 1 = N := ⟨_, rfl⟩
    rw [hN]
    have hw : IntKind.i64.wrap ((N : Int) - 1) = (m : Int) := by rw [show (N : Int) - 1 = (m : Int) by omega]; exact IntWalk.i64_in _ (by omega)
    have hin : (0 : Int) ≤ (m : Int) ∧ (m : Int) < (N : Int) := by omega
    have hN0 : ¬ ((N : Int) = 0) := by omega
    have hN1 : ((N : Int) == 0) = false := by simpa using hN0
    clear hv hl hm hlast hX hcell e hN hmx hf
    (try dsimp only)
    go_enter Tryz.func111, Tryz.ntmps111
    go_wp2
    refine bodyPost_ret (v := (.int .u8 X)) (by simp [results, Tryz.results111, go_sem] <;> first | done | rfl) rfl ?_
    exact ⟨rfl, by go_grown⟩
set_option maxRecDepth 100000 in
set_option maxHeartbeats 1000000 in
theorem last_k (l : List (Int × Int)) (v : Value) (w : World) (hv : w.ownsRow 0 49 2 v l.length (l.flatMap kE)) :
    Calls Tryz.prog 112 #[v] w fun e w' => e = .returned (.agg #[.int .u8 (lastB l).1, .int .u8 (lastB l).2]) ∧ Below w.heap.size w w' := by
  obtain ⟨p, c, hf⟩ := own_form hv
  by_cases hl : l.length = 0
  · have h0 : l = [] := List.length_eq_zero_iff.1 hl
    subst h0
    rw [hf]
    clear hv hl hf
    dsimp only [List.length_nil]
    go_enter Tryz.func112, Tryz.ntmps112
    go_wp2
    refine bodyPost_ret (v := (.agg #[.int .u8 0, .int .u8 0])) (by simp [results, Tryz.results112, go_sem] <;> first | done | rfl) rfl ?_
    exact ⟨rfl, by go_grown⟩
  · obtain ⟨m, hm⟩ : ∃ m, l.length = m + 1 := ⟨l.length - 1, by omega⟩
    obtain ⟨g, cap, e, hmx, hcell⟩ := row_last kE_len hv hm
    have hlast := lastK_snoc l m hm
    obtain ⟨⟨X, Y⟩, hX⟩ : ∃ X, l[m]'(by omega) = X := ⟨_, rfl⟩
    rw [hX] at hlast hcell
    rw [hlast, e]
    have hx0 := hcell 0 _ rfl
    have hx1 := hcell 1 _ rfl
    (try dsimp only at hx1)
    rw [Nat.add_zero] at hx0
    (try dsimp only at hx0)
    have hgl := klt hx0
    obtain ⟨N, hN⟩ : ∃ N, m + 1 = N := ⟨_, rfl⟩
    rw [hN]
    have hw : IntKind.i64.wrap ((N : Int) - 1) = (m : Int) := by rw [show (N : Int) - 1 = (m : Int) by omega]; exact IntWalk.i64_in _ (by omega)
    have hin : (0 : Int) ≤ (m : Int) ∧ (m : Int) < (N : Int) := by omega
    have hN0 : ¬ ((N : Int) = 0) := by omega
    have hN1 : ((N : Int) == 0) = false := by simpa using hN0
    clear hv hl hm hlast hX hcell e hN hmx hf
    (try dsimp only)
    go_enter Tryz.func112, Tryz.ntmps112
    go_wp2
    refine bodyPost_ret (v := (.agg #[.int .u8 X, .int .u8 Y])) (by simp [results, Tryz.results112, go_sem] <;> first | done | rfl) rfl ?_
    exact ⟨rfl, by go_grown⟩
set_option maxRecDepth 100000 in
set_option maxHeartbeats 1000000 in
theorem last_e (l : List (Int × Int)) (v : Value) (w : World) (hv : w.ownsRow 0 109 2 v l.length (l.flatMap eE)) :
    Calls Tryz.prog 113 #[v] w fun e w' => e = .returned (.agg #[.int .i64 (lastB l).1, .int .u8 (lastB l).2]) ∧ Below w.heap.size w w' := by
  obtain ⟨p, c, hf⟩ := own_form hv
  by_cases hl : l.length = 0
  · have h0 : l = [] := List.length_eq_zero_iff.1 hl
    subst h0
    rw [hf]
    clear hv hl hf
    dsimp only [List.length_nil]
    go_enter Tryz.func113, Tryz.ntmps113
    go_wp2
    refine bodyPost_ret (v := (.agg #[.int .i64 0, .int .u8 0])) (by simp [results, Tryz.results113, go_sem] <;> first | done | rfl) rfl ?_
    exact ⟨rfl, by go_grown⟩
  · obtain ⟨m, hm⟩ : ∃ m, l.length = m + 1 := ⟨l.length - 1, by omega⟩
    obtain ⟨g, cap, e, hmx, hcell⟩ := row_last eE_len hv hm
    have hlast := lastK_snoc l m hm
    obtain ⟨⟨X, Y⟩, hX⟩ : ∃ X, l[m]'(by omega) = X := ⟨_, rfl⟩
    rw [hX] at hlast hcell
    rw [hlast, e]
    have hx0 := hcell 0 _ rfl
    have hx1 := hcell 1 _ rfl
    (try dsimp only at hx1)
    rw [Nat.add_zero] at hx0
    (try dsimp only at hx0)
    have hgl := klt hx0
    obtain ⟨N, hN⟩ : ∃ N, m + 1 = N := ⟨_, rfl⟩
    rw [hN]
    have hw : IntKind.i64.wrap ((N : Int) - 1) = (m : Int) := by rw [show (N : Int) - 1 = (m : Int) by omega]; exact IntWalk.i64_in _ (by omega)
    have hin : (0 : Int) ≤ (m : Int) ∧ (m : Int) < (N : Int) := by omega
    have hN0 : ¬ ((N : Int) = 0) := by omega
    have hN1 : ((N : Int) == 0) = false := by simpa using hN0
    clear hv hl hm hlast hX hcell e hN hmx hf
    (try dsimp only)
    go_enter Tryz.func113, Tryz.ntmps113
    go_wp2
    refine bodyPost_ret (v := (.agg #[.int .i64 X, .int .u8 Y])) (by simp [results, Tryz.results113, go_sem] <;> first | done | rfl) rfl ?_
    exact ⟨rfl, by go_grown⟩
end Go.Proofs.YtcnejgilmciljaaGreatDoor
