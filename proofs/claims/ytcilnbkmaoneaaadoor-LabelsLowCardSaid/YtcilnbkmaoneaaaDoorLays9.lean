/-
  The program: Lay, and Low.
-/
import Derived.Test.YtcilnbkmaoneaaaDoorNewt9
import Derived.Test.YtcilnbkmaoneaaaDoorLow9
set_option linter.unusedSimpArgs false
set_option linter.unusedVariables false
namespace Go.Proofs.YtcilnbkmaoneaaaDoor
open Go.RowKit Go.PlainAid

set_option maxRecDepth 100000 in
theorem layn_c (q : Option Addr) (w : World) : Calls Tryd.prog 12 #[.pointer none, .pointer q] w fun e w' => e = .returned (.int .i64 2) ∧ Below w.heap.size w w' := by
  go_enter Tryd.func12, Tryd.ntmps12
  go_wp2
  go_ret
  exact ⟨rfl, by go_grown⟩
set_option maxRecDepth 100000 in
theorem laynm_c (p : Addr) (w : World) : Calls Tryd.prog 12 #[.pointer (some p), .pointer none] w fun e w' => e = .returned (.int .i64 2) ∧ Below w.heap.size w w' := by
  go_enter Tryd.func12, Tryd.ntmps12
  go_wp2
  go_ret
  exact ⟨rfl, by go_grown⟩
set_option maxRecDepth 100000 in
set_option maxHeartbeats 2000000 in
theorem layt_c (P : Pol) (M : Int → Int × Int) (tb mb bb : Nat) (w0 w : World) (hT : Tp tb P w0) (hl : P.s.length ≤ 1000) (hB0 : Below w0.heap.size w0 w) (hbb : w0.heap.size ≤ bb) (hP : Pm mb bb w M) (hL : Laid w) :
    Calls Tryd.prog 12 #[.pointer (some ⟨tb, 0, none⟩), .pointer (some ⟨mb, 0, none⟩)] w (MemEnd mb bb w 0 (layM M (sortS P.s))) := by
  obtain ⟨x, y, hTb, hx, _⟩ := hT.row
  have h0 := kc hB0 hTb.head.1
  have hln : (sortS P.s).length ≤ 1000 := by rw [sortS_len]; exact hl
  generalize sortS P.s = l at *
  obtain ⟨p, c, rfl⟩ := hx.form
  obtain ⟨n, hn⟩ : ∃ n, l.length = n := ⟨_, rfl⟩
  rw [hn] at h0 hln
  have HN := Lib.hid hn
  have HX := Lib.hid hx
  have HB0 := Lib.hid hB0
  have HP := Lib.hid hP
  have HL := Lib.hid (fun u (hg : w.grownBy u (some bb)) => hP.laid hL hg)
  rw [hn] at HX
  have hlt : tb < w.heap.size := klt h0
  clear hTb hx hT hB0 hP hL hn
  have htt_0 := h0
  clear h0
  go_enter Tryd.func12, Tryd.ntmps12
  go_wp2_with fail
  go_loopw [19] (fun s19 wr => ∃ k : Nat, k ≤ n ∧ s19 = .int .i64 k ∧ Hid (Pm mb bb wr (layM M (l.take k))) ∧ Hid (w.grownBy wr (some bb))) (fun i _ => n - (intOf i).toNat)
  case atStart => exact ⟨0, Nat.zero_le _, rfl, Lib.hid (by rw [List.take_zero]; exact HP.out), Lib.hid (grown_of9 (Below.refl _ _))⟩
  case round =>
    obtain ⟨k, hk, rfl, HPr, HGr⟩ := hrel
    clear htt_0
    by_cases hlt2 : k < n
    · have hd : decide ((k : Int) < (n : Int)) = true := decide_eq_true (by omega)
      have hlk : k < l.length := by rw [HN.out]; exact hlt2
      obtain ⟨g, o, cap, e1, hcap, hcc⟩ := HX.out.some (by omega)
      obtain ⟨rfl, n1, rfl⟩ := Value.slice.inj e1
      clear e1 n1
      obtain ⟨x0, x1, x2⟩ := get3 hcc (List.getElem?_eq_getElem hlk)
      have hst : layM M (l.take (k + 1)) = (labelMp (layM M (l.take k)) l[k].f l[k].t l[k].b).2 := by rw [List.take_succ_eq_append_getElem hlk, layM_snoc]
      generalize l[k] = x at *
      obtain ⟨xf, xt, xb⟩ := x
      dsimp only at x0 x1 x2 hst
      have hgb : g ≠ bb := by have := klt x0; omega
      have hs_0 := HGr.out.cell (kc HB0.out x0) (by simpa using hgb)
      have hs_1 := HGr.out.cell (kc HB0.out x1) (by simpa using hgb)
      have hs_2 := HGr.out.cell (kc HB0.out x2) (by simpa using hgb)
      have hw2 : IntKind.i64.wrap ((k : Int) + 1) = (k : Int) + 1 := IntWalk.i64_in _ (by omega)
      have hin : (0 : Int) ≤ (k : Int) ∧ (k : Int) < (n : Int) := by omega
      have HLA := Lib.hid (fun W (hb : Below wr.heap.size wr W) => labelp_c (layM M (l.take k)) xf xt xb mb bb W (HPr.out.below hb) (HL.out W (World.grownBy.trans HGr.out (grown_of9 hb))))
      rw [← hst] at HLA
      have hgl := klt hs_0
      have hgn : ¬ g = wr.heap.size := by omega
      clear x0 x1 x2 hcc hst
      go_wp2_with fail
      refine (HLA.out _ (by go_grown)).mono ?_
      rintro _ u ⟨rfl, hg, hP2⟩
      have HP2 := Lib.hid hP2
      have HG2 := Lib.hid (World.grownBy.trans (World.grownBy.trans HGr.out (grown_of9 (g := some bb) ((Below.refl _ wr).alloc (Nat.le_refl _) _))) hg)
      clear hg hP2 HLA
      go_wp2
      go_roundw
      case rel => exact ⟨k + 1, by omega, by go_num, HP2, HG2⟩
      case measure => simp [intOf] <;> omega
    · have hkm : k = n := by omega
      have hd : decide ((k : Int) < (n : Int)) = false := decide_eq_false (by omega)
      have HFIN := Lib.hid (show Pm mb bb wr (layM M l) from by have := HPr.out; rw [hkm, ← HN.out, List.take_length] at this; exact this)
      go_wp2
      go_ret
      exact ⟨rfl, HGr.out, HFIN.out⟩
set_option maxRecDepth 100000 in
theorem lown_c (p q r : Option Addr) (h : p = none ∨ q = none ∨ r = none) (w : World) : Calls Tryd.prog 13 #[.pointer p, .pointer q, .pointer r] w fun e w' => e = .returned (.bool false) ∧ Below w.heap.size w w' := by
  cases p with
  | none =>
    clear h
    go_enter Tryd.func13, Tryd.ntmps13
    go_wp2
    go_ret
    exact ⟨rfl, by go_grown⟩
  | some p =>
    cases q with
    | none =>
      clear h
      go_enter Tryd.func13, Tryd.ntmps13
      go_wp2
      go_ret
      exact ⟨rfl, by go_grown⟩
    | some q =>
      obtain rfl : r = none := by rcases h with h | h | h; cases h; cases h; exact h
      go_enter Tryd.func13, Tryd.ntmps13
      go_wp2
      go_ret
      exact ⟨rfl, by go_grown⟩
def lowK (S : Int → Int) (M N : Int → Int × Int) (k : Nat) : Bool := (List.range k).all fun j => lowAt S M N (j : Int)
theorem lowK_snoc (S : Int → Int) (M N : Int → Int × Int) (k : Nat) : lowK S M N (k + 1) = (lowK S M N k && lowAt S M N (k : Int)) := by
  unfold lowK
  rw [List.range_succ, List.all_append]
  simp
theorem lowK_bad {S : Int → Int} {M N : Int → Int × Int} {k : Nat} (hk : k < 65536) (h : lowAt S M N (k : Int) = false) : lowM S M N = false := by
  cases e : lowM S M N
  · rfl
  · rw [lowM_iff.1 e k hk] at h; cases h
set_option maxRecDepth 100000 in
set_option maxHeartbeats 2000000 in
theorem lowp_c (P : Pol) (M N : Int → Int × Int) (tb mb bb nb nbb : Nat) (w : World) (hT : Tp tb P w) (hP : Pm mb bb w M) (hQ : Pm nb nbb w N) (hL : Laid w) :
    Calls Tryd.prog 13 #[.pointer (some ⟨tb, 0, none⟩), .pointer (some ⟨mb, 0, none⟩), .pointer (some ⟨nb, 0, none⟩)] w fun e w' => e = .returned (.bool (lowM (bitsR P.s) M N)) ∧ Below w.heap.size w w' := by
  obtain ⟨x, y, hTb, _, _⟩ := hT.row
  have HC := Lib.hid hTb.sec
  have htl := hTb.lt
  have HR1 := Lib.hid (fun a W (hb : Below w.heap.size w W) => readp_c M a mb bb W (hP.below hb) (hL.below hb))
  have HR2 := Lib.hid (fun a W (hb : Below w.heap.size w W) => readp_c N a nb nbb W (hQ.below hb) (hL.below hb))
  clear hTb hT hP hQ hL
  generalize bitsR P.s = S at *
  obtain ⟨R, hR⟩ : ∃ R, lowM S M N = R := ⟨_, rfl⟩
  rw [hR]
  have HBAD := Lib.hid (fun k (hk : k < 65536) (h : lowAt S M N (k : Nat) = false) => hR.symm.trans (lowK_bad hk h))
  have HEND := Lib.hid (show lowK S M N 65536 = R from hR)
  clear hR
  obtain ⟨G, hG⟩ : ∃ G : Nat, 65536 = G := ⟨_, rfl⟩
  have HG := Lib.hid hG
  clear hG
  go_enter Tryd.func13, Tryd.ntmps13
  go_wp2_with fail
  go_loopw [22] (fun s22 wr => ∃ k : Nat, k ≤ G ∧ s22 = .int .i64 k ∧ Hid (lowK S M N k = true) ∧ Below w.heap.size w wr) (fun i _ => G - (intOf i).toNat)
  case atStart => exact ⟨0, Nat.zero_le _, rfl, Lib.hid rfl, Below.refl _ _⟩
  case round =>
    obtain ⟨k, hkG, rfl, HK, hB⟩ := hrel
    have HKG := Lib.hid hkG
    clear hkG
    by_cases hlt : k < 65536
    · have hd : decide ((k : Int) < 65536) = true := decide_eq_true (by omega)
      have hw1 : IntKind.i64.wrap ((k : Int) + 1) = (k : Int) + 1 := IntWalk.i64_in _ (by omega)
      have hin : (0 : Int) ≤ (k : Int) ∧ (k : Int) < 65536 := by omega
      have hcs := HC.out k hlt
      have HSN := Lib.hid (lowK_snoc S M N k)
      have HBk := Lib.hid (HBAD.out k hlt)
      have HR1k := Lib.hid (HR1.out (k : Int))
      have HR2k := Lib.hid (HR2.out (k : Int))
      obtain ⟨LA, hLA⟩ : ∃ L, lowAt S M N (k : Int) = L := ⟨_, rfl⟩
      have hLA2 := hLA
      unfold lowAt at hLA2
      rw [hLA] at HSN HBk
      clear hLA
      generalize prM M (k : Int) = r1 at *
      generalize prM N (k : Int) = r2 at *
      generalize S (k : Int) = sv at *
      obtain ⟨v1, t1, f1⟩ := r1
      obtain ⟨v2, t2, f2⟩ := r2
      dsimp only at hLA2 HR1k HR2k
      have hLA3 : (bits .andNot .u8 (bits .xor .u8 v1 v2) sv != 0) = !LA := by simp [bne, hLA2]
      have HLT := Lib.hid hlt
      clear hLA2
      have htt_0 := kc hB hcs
      have hsz := hB.size
      have hltt : tb < wr.heap.size := by omega
      clear hcs
      go_wp2_with fail
      ((with_reducible refine (HR1k.out _ (by go_grown)).mono ?_); rintro _ u1 ⟨rfl, hb⟩)
      have T : u1.cell? ⟨tb, 4 + k, none⟩ = some (.int .u8 sv) := by
          refine kc hb ?_ <;> (go_simp; first | done | rfl)
      have hz := hb.size
      (try simp only [World.size_alloc, World.size_setCell, World.size_drew] at hz)
      have L : tb < u1.heap.size := by omega
      have hB' : Below w.heap.size w u1 := by
          refine kb ?_ hb
          go_grown
      clear hb hz
      have htt_0 := T; clear T
      have hltt := L; clear L
      obtain ⟨hntt0, hntt1, hktt1, hntt2, hktt2⟩ := ap0 hltt
      have hB := hB'; clear hB'
      have hsz := hB.size
      go_wp2_with fail
      ((with_reducible refine (HR2k.out _ (by go_grown)).mono ?_); rintro _ u2 ⟨rfl, hb⟩)
      have T : u2.cell? ⟨tb, 4 + k, none⟩ = some (.int .u8 sv) ∧ CC u2 u1.heap.size 0 1 (.int .u8 v1) (.int .u8 t1) := by
          refine ⟨?_, ⟨?_, ?_⟩⟩ <;> refine kc hb ?_ <;> (go_simp; first | done | rfl)
      have hz := hb.size
      (try simp only [World.size_alloc, World.size_setCell, World.size_drew] at hz)
      have L : tb < u2.heap.size ∧ u1.heap.size < u2.heap.size := by omega
      have hB' : Below w.heap.size w u2 := by
          refine kb ?_ hb
          go_grown
      clear htt_0 hltt hntt0 hntt1 hktt1 hntt2 hktt2 hB hsz
      clear hb hz
      obtain ⟨htt_0, ⟨ha1_0, ha1_1⟩⟩ := T
      obtain ⟨hltt, hla1⟩ := L
      obtain ⟨hntt0, hntt1, hktt1, hntt2, hktt2⟩ := ap0 hltt
      obtain ⟨hna10, hna11, hka11, hna12, hka12⟩ := ap0 hla1
      have hB := hB'; clear hB'
      have hsz := hB.size
      go_upto_region 8 with fail
      refine wp_region_plan (fun w' => w'.cell? ⟨tb, 4 + k, none⟩ = some (.int .u8 sv) ∧ w'.cell? ⟨u1.heap.size, 0, none⟩ = some (.int .u8 v1) ∧ w'.cell? ⟨u1.heap.size, 1, none⟩ = some (.int .u8 t1) ∧ w'.cell? ⟨u2.heap.size, 0, none⟩ = some (.int .u8 v2) ∧ w'.cell? ⟨u2.heap.size, 1, none⟩ = some (.int .u8 t2) ∧ Below w.heap.size w w') (by kernel_rfl) (by kernel_rfl) (by kernel_rfl) ?_ ?_
      · (try dsimp only)
        refine ⟨?_, ?_, ?_, ?_, ?_, ?_⟩ <;> first | (go_simp; done) | (simp [*]; done) | go_grown
      repeat (first
        | (refine Plan.val (v := ?_) ?_ ?_ ?_; rotate_left; (· rfl); (· (intro W hSw; (try dsimp only at hSw); go_simp; all_goals (first | (with_reducible rfl) | (constructor <;> (with_reducible rfl)) | (rw [if_neg (by omega)]; done) | (rw [if_neg (by omega)]; with_reducible rfl)))); (try simp only [Act.put, List.setIfInBounds_toArray, List.set_cons_zero, List.set_cons_succ]))
        | (refine Plan.no ?_ ?_; (· rfl); (try simp only [Act.put, List.setIfInBounds_toArray, List.set_cons_zero, List.set_cons_succ])))
      refine Plan.done ?_
      intro u3 T
      (try dsimp only at T)
      clear htt_0 ha1_0 ha1_1 hltt hla1 hntt0 hntt1 hktt1 hntt2 hktt2 hna10 hna11 hka11 hna12 hka12 hB hsz
      obtain ⟨htt_0, ha1_0, ha1_1, ha2_0, ha2_1, hB⟩ := T
      have hsz := hB.size
      have hltt := klt htt_0
      have hla1 := klt ha1_0
      have hla2 := klt ha2_0
      obtain ⟨hntt0, hntt1, hktt1, hntt2, hktt2⟩ := ap0 hltt
      obtain ⟨hna10, hna11, hka11, hna12, hka12⟩ := ap0 hla1
      obtain ⟨hna20, hna21, hka21, hna22, hka22⟩ := ap0 hla2
      clear hd hin
      cases LA
      · have HF := Lib.hid (HBk.out rfl)
        go_wp2
        go_ret
        exact ⟨by rw [HF.out]; rfl, hB⟩
      · have HF := Lib.hid (show lowK S M N (k + 1) = true from by rw [HSN.out, HK.out]; rfl)
        go_wp2
        go_roundw
        case rel => exact ⟨k + 1, by have := HG.out; have := HLT.out; omega, by go_num, HF, hB⟩
        case measure => have := HG.out; have := HLT.out; simp [intOf] <;> omega
    · have hd : decide ((k : Int) < 65536) = false := decide_eq_false (by omega)
      have hk : k = 65536 := by have := HG.out; have := HKG.out; omega
      have HF := Lib.hid (show R = true from by have := HK.out; rw [hk, HEND.out] at this; exact this)
      clear hk
      go_wp2
      go_ret
      exact ⟨by rw [HF.out]; rfl, by go_grown⟩
end Go.Proofs.YtcilnbkmaoneaaaDoor
