/- Layer 7's document: its -/
import Derived.Test.YtjcmblbnbpikfaaGreatDoorDoc10
import Derived.Test.YtjcmblbnbpikfaaGreatDoorParsp
import Derived.Test.YtjcmblbnbpikfaaGreatDoorLawKit
import Derived.Test.YtjcmblbnbpikfaaGreatDoorOval
import Derived.Test.YtjcmblbnbpikfaaGreatDoorPlain7
set_option linter.unusedSimpArgs false
set_option linter.unusedVariables false
set_option maxRecDepth 100000
namespace Go.Proofs.YtjcmblbnbpikfaaGreatDoor
open Lib (hid)
open List (setIfInBounds_toArray set_cons_zero set_cons_succ append_eq cons_append nil_append toList_toArray take_succ_cons take_zero drop_succ_cons drop_zero)
open Go.RowKit Go.PlainAid

theorem word4_no {t : List UInt8} (h : word4 t = none) : t ≠ secretL ∧ t ≠ sinkL ∧ t ≠ declL ∧ t ≠ traceL := by
 unfold word4 at h
 by_cases h1 : t = secretL
 ·rw [if_pos h1] at h; cases h
 ·rw [if_neg h1] at h
  by_cases h2 : t = sinkL
  ·rw [if_pos h2] at h; cases h
  ·rw [if_neg h2] at h
   by_cases h3 : t = declL
   ·rw [if_pos h3] at h; cases h
   ·rw [if_neg h3] at h
    by_cases h4 : t = traceL
    ·rw [if_pos h4] at h; cases h
    ·exact ⟨h1, h2, h3, h4⟩
theorem not_text {t k : List UInt8} (h : t ≠ k) : ((txB t).toList == k) = false := by rw [txB_toList]; exact beq_eq_false_iff_ne.2 h
theorem lineM_sp {sink : Bool} {word : Tk} (h : word.t = (if sink = true then sinkL else secretL)) (l : List Tk) (sp : List Mk) (dn : Int) (db : Bool) (tn : Int) (tb : Bool) : lineM word l sp dn db tn tb = spLn sink word l sp dn db tn tb := by
 unfold lineM
 cases sink
 ·exact if_pos h
 ·rw [if_neg (show ¬ word.t = secretL by rw [h]; decide)]; exact if_pos h
theorem lineM_de {word : Tk} (h : word.t = declL) (l : List Tk) (sp : List Mk) (dn : Int) (db : Bool) (tn : Int) (tb : Bool) : lineM word l sp dn db tn tb = (if (settM db mayD word l).e ≠ 0 then ⟨(settM db mayD word l).e, (settM db mayD word l).li, (settM db mayD word l).co, [], [], 0, false, 0, false⟩ else ⟨0, 0, 0, (settM db mayD word l).r, sp, (settM db mayD word l).n, true, tn, tb⟩) := by
 unfold lineM
 rw [if_neg (show ¬ word.t = secretL by rw [h]; decide), if_neg (show ¬ word.t = sinkL by rw [h]; decide), if_pos h]
theorem lineM_tr {word : Tk} (h : word.t = traceL) (l : List Tk) (sp : List Mk) (dn : Int) (db : Bool) (tn : Int) (tb : Bool) : lineM word l sp dn db tn tb = (if (settM tb mayT word l).e ≠ 0 then ⟨(settM tb mayT word l).e, (settM tb mayT word l).li, (settM tb mayT word l).co, [], [], 0, false, 0, false⟩ else ⟨0, 0, 0, (settM tb mayT word l).r, sp, dn, db, (settM tb mayT word l).n, true⟩) := by
 unfold lineM
 rw [if_neg (show ¬ word.t = secretL by rw [h]; decide), if_neg (show ¬ word.t = sinkL by rw [h]; decide), if_neg (show ¬ word.t = declL by rw [h]; decide), if_pos h]
theorem rq_own {rb S0 : Nat} {w : World} {sp : List Mk} {vs vk : Value} {dn tn : Int} {db tb : Bool} (h : Rq rb S0 w sp vs vk dn db tn tb) {b : Nat} (hb : w.heap.size ≤ b) : vs.ownBlock ≠ some b ∧ vk.ownBlock ≠ some b :=
 ⟨fun e => by have := (h.os.lt _ e).2; omega, fun e => by have := (h.ok.lt _ e).2; omega⟩
set_option maxHeartbeats 4000000 in
theorem liner_no (word : Tk) (ts l : List Tk) (sp : List Mk) (dn tn : Int) (db tb : Bool) (hP : word.k ≠ 1 → word.t = []) (hw : word.k ≠ 1 ∨ word4 word.t = none) (rb S0 : Nat) (vs vk v : Value) (w : World) (hR : Rq rb S0 w sp vs vk dn db tn tb) (hv : HoldsT w v (word :: ts)) : Calls Tryz.prog 40 #[.pointer (some ⟨rb, 0, none⟩), v] w (LnR rb S0 w (lineM word l sp dn db tn tb)) := by
 have hw4 : word4 word.t = none := by
  rcases hw with h | h
  ·rw [hP h]; decide
  ·exact h
 have hlt := hR.lt
 have hsz0 := hR.sz
 rw [lineM_no hw4]
 rcases hv with ⟨_, h⟩ | ⟨g, o, cap, rfl, hcap, hc⟩
 ·cases h
 obtain ⟨n, hn⟩ : ∃ n, (word :: ts).length = n := ⟨_, rfl⟩
 rw [hn] at hcap ⊢
 have hn1 : 0 < n := by rw [← hn]; simp
 have hp1 : (0 : Int) < (n : Int) := by omega
 have hT := hc 0 word rfl
 rw [Nat.zero_mul, Nat.add_zero] at hT
 clear hc hn hR hw hP
 obtain ⟨wk, wt, wn, wl, wcc⟩ := word
 dsimp only at hT hw4 ⊢
 obtain ⟨m1, m2, m3, m4⟩ := word4_no hw4
 replace m1 := not_text m1
 replace m2 := not_text m2
 replace m3 := not_text m3
 replace m4 := not_text m4
 unfold secretL at m1
 unfold sinkL at m2
 unfold declL at m3
 unfold traceL at m4
 generalize txB wt = W at *
 obtain ⟨htk_0, htk_1, htk_2, htk_3, htk_4⟩ := hT
 have hgw : g < w.heap.size := klt htk_0
 clear hw4
 by_cases hk : wk = 1
 ·subst hk
  go_enter Tryz.func40, Tryz.ntmps40
  go_wp2_with fail
  ((with_reducible refine (at_u _ _ _ _ _ _ _).mono ?_); rintro _ u ⟨rfl, hb⟩)
  have T : CF u w.heap.size 0 (.int .i64 0) ∧ CF u w.heap.size 1 (.int .i64 0) ∧ CF u w.heap.size 2 (.int .i64 0) ∧ CC u g o (o + 1) (.int .i64 1) (.string W) ∧ CC u g (o + 2) (o + 3) (.int .i64 wn) (.int .i64 wl) ∧ u.cell? ⟨g, o + 4, none⟩ = some (.int .i64 wcc) := by
    refine ⟨⟨?_, ?_⟩, ⟨?_, ?_⟩, ⟨?_, ?_⟩, ⟨?_, ?_⟩, ⟨?_, ?_⟩, ?_⟩ <;> first | (refine kc hb ?_ <;> (go_simp; first | done | rfl)) | (refine kfz hb ?_ ?_ <;> first | (go_size; done) | (go_simp; done))
  have hz := hb.size
  (try simp only [szA] at hz)
  have L : w.heap.size < u.heap.size ∧ g < u.heap.size := by omega
  have hB' : Below w.heap.size w u := by
    refine kb ?_ hb
    go_grown
  clear hb hz
  obtain ⟨⟨hz_0, fz_0⟩, ⟨hz_1, fz_1⟩, ⟨hz_2, fz_2⟩, ⟨htk_0, htk_1⟩, ⟨htk_2, htk_3⟩, htk_4⟩ := T
  obtain ⟨hlz, hltk⟩ := L
  obtain ⟨hnz0, hnz1, hkz1, hnz2, hkz2⟩ := ap0 hlz
  obtain ⟨hntk0, hntk1, hktk1, hntk2, hktk2⟩ := ap0 hltk
  have hB := hB'; clear hB'
  have hsz := hB.size
  (try dsimp only)
  repeat (first | go_values | go_skip | go_guarded | go_step | go_upon)
  refine bodyPost_ret (v := .agg #[.int .i64 wl, .int .i64 wcc, .int .i64 14]) (by simp [results, Tryz.results40, go_sem, hz_0, hz_1, hz_2] <;> first | done | rfl) rfl (lnR_err rfl rfl rfl (by decide) (Kp.of_below (by (repeat (refine Below.setCell ?_ (by first | exact Nat.le_refl _ | exact Nat.le_add_right _ _) _)); exact hB) hlt hsz0))
 ·have hk1 : (wk == 1) = false := by simpa using hk
  have hk2 : (wk != 1) = true := by simp [bne, hk1]
  go_enter Tryz.func40, Tryz.ntmps40
  go_wp2_with fail
  ((with_reducible refine (at_u _ _ _ _ _ _ _).mono ?_); rintro _ u ⟨rfl, hb⟩)
  have T : CF u w.heap.size 0 (.int .i64 0) ∧ CF u w.heap.size 1 (.int .i64 0) ∧ CF u w.heap.size 2 (.int .i64 0) ∧ CC u g o (o + 1) (.int .i64 wk) (.string W) ∧ CC u g (o + 2) (o + 3) (.int .i64 wn) (.int .i64 wl) ∧ u.cell? ⟨g, o + 4, none⟩ = some (.int .i64 wcc) := by
    refine ⟨⟨?_, ?_⟩, ⟨?_, ?_⟩, ⟨?_, ?_⟩, ⟨?_, ?_⟩, ⟨?_, ?_⟩, ?_⟩ <;> first | (refine kc hb ?_ <;> (go_simp; first | done | rfl)) | (refine kfz hb ?_ ?_ <;> first | (go_size; done) | (go_simp; done))
  have hz := hb.size
  (try simp only [szA] at hz)
  have L : w.heap.size < u.heap.size ∧ g < u.heap.size := by omega
  have hB' : Below w.heap.size w u := by
    refine kb ?_ hb
    go_grown
  clear hb hz
  obtain ⟨⟨hz_0, fz_0⟩, ⟨hz_1, fz_1⟩, ⟨hz_2, fz_2⟩, ⟨htk_0, htk_1⟩, ⟨htk_2, htk_3⟩, htk_4⟩ := T
  obtain ⟨hlz, hltk⟩ := L
  obtain ⟨hnz0, hnz1, hkz1, hnz2, hkz2⟩ := ap0 hlz
  obtain ⟨hntk0, hntk1, hktk1, hntk2, hktk2⟩ := ap0 hltk
  have hB := hB'; clear hB'
  have hsz := hB.size
  (try dsimp only)
  repeat (first | go_values | go_skip | go_guarded | go_step | go_upon)
  refine bodyPost_ret (v := .agg #[.int .i64 wl, .int .i64 wcc, .int .i64 14]) (by simp [results, Tryz.results40, go_sem, hz_0, hz_1, hz_2] <;> first | done | rfl) rfl (lnR_err rfl rfl rfl (by decide) (Kp.of_below (by (repeat (refine Below.setCell ?_ (by first | exact Nat.le_refl _ | exact Nat.le_add_right _ _) _)); exact hB) hlt hsz0))
set_option maxHeartbeats 4000000 in
theorem liner_de (word : Tk) (ts rest : List Tk) (sp : List Mk) (dn tn : Int) (db tb : Bool) (hE : Ended (word :: ts)) (hP : Plains (word :: ts)) (hw : word.t = declL) (rb S0 : Nat) (vs vk v : Value) (w : World) (hR : Rq rb S0 w sp vs vk dn db tn tb) (hv : HoldsT w v (word :: ts)) (hg : ∀ g, v.ownBlock = some g → g ≠ rb) : Calls Tryz.prog 40 #[.pointer (some ⟨rb, 0, none⟩), v] w (LnR rb S0 w (lineM word (ts ++ rest) sp dn db tn tb)) := by
 have hk1 : word.k = 1 := Classical.byContradiction fun h => by have := (hP word (by simp)).1 h; rw [hw] at this; cases this
 have hE1 := hE.tail (show word.k ≠ 4 by rw [hk1]; decide)
 have hlt := hR.lt
 have hsz0 := hR.sz
 rw [lineM_de hw]
 rcases hv with ⟨_, h⟩ | ⟨g, o, cap, rfl, hcap, hc⟩
 ·cases h
 have hgr : g ≠ rb := hg g rfl
 obtain ⟨a, r, rfl⟩ := hE1.ne
 obtain ⟨n, hn⟩ : ∃ n, (word :: a :: r).length = n := ⟨_, rfl⟩
 rw [hn] at hcap ⊢
 have hn1 : 1 < n := by rw [← hn]; simp
 have hp0 : (0 : Int) < (n : Int) := by omega
 have hp1 : (1 : Int) < (n : Int) := by omega
 have HN := hid hn
 have HC := hid hc
 have hTw := tok_at hc 0 0 rfl rfl
 have hTa := tok_at hc 1 5 rfl rfl
 have han : 0 ≤ a.n := (hP a (by simp)).2
 have HE1 := hid hE1
 clear hn hc hg hP hE hE1
 obtain ⟨O, hO⟩ : ∃ O, settM db mayD word (a :: r ++ rest) = O := ⟨_, rfl⟩
 rw [hO]
 have HO := hid hO
 clear hO
 obtain ⟨M, hM⟩ : ∃ M, ((if O.e ≠ 0 then ⟨O.e, O.li, O.co, [], [], 0, false, 0, false⟩ else ⟨0, 0, 0, O.r, sp, O.n, true, tn, tb⟩ : LnO)) = M := ⟨_, rfl⟩
 rw [hM]
 have HM := hid hM
 clear hM
 obtain ⟨wk, wt, wn, wl, wcc⟩ := word
 obtain ⟨ak, at_, an, al, ac⟩ := a
 dsimp only at hTw hTa hw hk1 han
 subst hw
 subst hk1
 rw [Nat.add_zero, Nat.zero_add, Nat.zero_add, Nat.zero_add, Nat.zero_add, show txB declL = (⟨#[100, 101, 99, 108, 97, 115, 115, 105, 102, 121]⟩ : ByteArray) from rfl] at hTw
 generalize txB at_ = aT at *
 obtain ⟨htk_0, htk_1, htk_2, htk_3, htk_4⟩ := hTw
 obtain ⟨htk_5, htk_6, htk_7, htk_8, htk_9⟩ := hTa
 have hgw : g < w.heap.size := klt htk_0
 have hrw : rb < w.heap.size := by omega
 have HR := hid hR
 have hr_4 := hR.c4
 have fr_4 := hR.fr 4 (by omega)
 have hr_2 := hR.c2
 have fr_2 := hR.fr 2 (by omega)
 clear hR
 by_cases a0 : ak = 2
 ·subst a0
  obtain ⟨z, r2, rfl⟩ := (HE1.out.tail (show (2 : Int) ≠ 4 by decide)).ne
  have hn2 : 2 < n := by have := HN.out; simp only [List.length_cons] at this; omega
  have hp2 : (2 : Int) < (n : Int) := by omega
  have hTz := tok_at HC.out 2 10 rfl rfl
  obtain ⟨zk, zt, zn, zl, zc⟩ := z
  dsimp only at hTz
  generalize txB zt = zT at *
  obtain ⟨htk_10, htk_11, htk_12, htk_13, htk_14⟩ := hTz
  by_cases z0 : zk = 4
  ·subst z0
   have hr2e : r2 = [] := ((HE1.out.tail (show (2 : Int) ≠ 4 by decide)).single rfl)
   subst hr2e
   obtain ⟨B, hB0⟩ : ∃ B, db = B := ⟨_, rfl⟩
   rw [hB0] at HO HR hr_4
   cases B
   ·skip
    try dsimp only at hr_4
    simp only [Bool.false_eq_true, if_false] at hr_4
    go_enter Tryz.func40, Tryz.ntmps40
    go_wp2_with fail
    refine wp_region_planT 10 (fun w' => w'.cell? ⟨w.heap.size, 0, none⟩ = some (.int .i64 0) ∧ w'.frozen? ⟨w.heap.size, 0, none⟩ = false ∧ w'.cell? ⟨w.heap.size, 1, none⟩ = some (.int .i64 0) ∧ w'.frozen? ⟨w.heap.size, 1, none⟩ = false ∧ w'.cell? ⟨w.heap.size, 2, none⟩ = some (.int .i64 0) ∧ w'.frozen? ⟨w.heap.size, 2, none⟩ = false ∧ w'.cell? ⟨g, o, none⟩ = some (.int .i64 1) ∧ w'.cell? ⟨g, o + 1, none⟩ = some (.string ⟨#[100, 101, 99, 108, 97, 115, 115, 105, 102, 121]⟩) ∧ w'.cell? ⟨g, o + 2, none⟩ = some (.int .i64 wn) ∧ w'.cell? ⟨g, o + 3, none⟩ = some (.int .i64 wl) ∧ w'.cell? ⟨g, o + 4, none⟩ = some (.int .i64 wcc) ∧ w'.cell? ⟨g, o + 5, none⟩ = some (.int .i64 2) ∧ w'.cell? ⟨g, o + 6, none⟩ = some (.string aT) ∧ w'.cell? ⟨g, o + 7, none⟩ = some (.int .i64 an) ∧ w'.cell? ⟨g, o + 8, none⟩ = some (.int .i64 al) ∧ w'.cell? ⟨g, o + 9, none⟩ = some (.int .i64 ac) ∧ w'.cell? ⟨g, o + 10, none⟩ = some (.int .i64 4) ∧ w'.cell? ⟨g, o + 11, none⟩ = some (.string zT) ∧ w'.cell? ⟨g, o + 12, none⟩ = some (.int .i64 zn) ∧ w'.cell? ⟨g, o + 13, none⟩ = some (.int .i64 zl) ∧ w'.cell? ⟨g, o + 14, none⟩ = some (.int .i64 zc) ∧ w'.cell? ⟨rb, 2, none⟩ = some (.int .i64 dn) ∧ w'.frozen? ⟨rb, 2, none⟩ = false ∧ w'.cell? ⟨rb, 4, none⟩ = some (.int .i64 0) ∧ w'.frozen? ⟨rb, 4, none⟩ = false ∧ Below w.heap.size w w') (by kernel_rfl) (by kernel_rfl) (by kernel_rfl) (by kernel_rfl) ?_ ?_
    ·(try dsimp only)
     refine ⟨?_, ?_, ?_, ?_, ?_, ?_, ?_, ?_, ?_, ?_, ?_, ?_, ?_, ?_, ?_, ?_, ?_, ?_, ?_, ?_, ?_, ?_, ?_, ?_, ?_, ?_⟩ <;> first | (go_simp; done) | (simp [*]; done) | go_grown
    (try simp only [append_eq, cons_append, nil_append, toList_toArray, take_succ_cons, take_zero, drop_succ_cons, drop_zero])
    repeat (first
     | (refine Plan.val (v := ?_) ?_ ?_ ?_; rotate_left; (· rfl); (· (intro W hSw; (try dsimp only at hSw); go_simp; all_goals (first | (with_reducible rfl) | (constructor <;> (with_reducible rfl)) | (rw [if_neg (by omega)]; done) | (rw [if_neg (by omega)]; with_reducible rfl)))); (try simp only [Act.put, setIfInBounds_toArray, set_cons_zero, set_cons_succ]))
     | (refine Plan.no ?_ ?_; (· rfl); (try simp only [Act.put, setIfInBounds_toArray, set_cons_zero, set_cons_succ])))
    refine Plan.done ?_
    intro u1 T
    (try dsimp only at T)
    obtain ⟨hz_0, fz_0, hz_1, fz_1, hz_2, fz_2, htk_0, htk_1, htk_2, htk_3, htk_4, htk_5, htk_6, htk_7, htk_8, htk_9, htk_10, htk_11, htk_12, htk_13, htk_14, hr_2, fr_2, hr_4, fr_4, hB⟩ := T
    have hsz := hB.size
    have hlz := klt hz_0
    have hltk := klt htk_0
    have hlr := klt hr_2
    obtain ⟨hnz0, hnz1, hkz1, hnz2, hkz2⟩ := ap0 hlz
    obtain ⟨hntk0, hntk1, hktk1, hntk2, hktk2⟩ := ap0 hltk
    obtain ⟨hnr0, hnr1, hkr1, hnr2, hkr2⟩ := ap0 hlr
    have HB1 := hid hB
    replace hB : Below 0 w u1 := hB.mono (Nat.zero_le _)
    have hbase : 0 ≤ w.heap.size := Nat.zero_le _
    have HK := hid (((Kp.of_below HB1.out hlt hsz0).setr 4 (.int .i64 1)).setr 2 (.int .i64 an))
    have hzz : S0 ≤ u1.heap.size := Nat.le_trans hsz0 HB1.out.size
    by_cases hm : 1000 < an
    ·skip
     have d1 : decide ((1000 : Int) < an) = true := decide_eq_true hm
     have hO := HO.out
     rw [List.cons_append, List.cons_append, settM_range rfl rfl (show mayD an = false from by unfold mayD; rw [decide_eq_false (show ¬ an ≤ 1000 by omega), Bool.and_false])] at hO
     subst hO
     go_wp2_with fail
     ((with_reducible refine (at_u _ _ _ _ _ _ _).mono ?_); rintro _ u2 ⟨rfl, hb⟩)
     have hs_u2 := hid hb
     have T : CF u2 w.heap.size 0 (.int .i64 0) ∧ CF u2 w.heap.size 1 (.int .i64 0) ∧ CF u2 w.heap.size 2 (.int .i64 0) := by
       refine ⟨⟨?_, ?_⟩, ⟨?_, ?_⟩, ⟨?_, ?_⟩⟩ <;> first | (refine kc hb ?_ <;> (go_simp; first | done | rfl)) | (refine kfz hb ?_ ?_ <;> first | (go_size; done) | (go_simp; done))
     have hz := hb.size
     (try simp only [szA] at hz)
     have L : w.heap.size < u2.heap.size := by omega
     have hB' : Below 0 w u2 := by
       refine kbn hbase ?_ hb
       go_grown
     clear hz_0 fz_0 hz_1 fz_1 hz_2 fz_2 htk_0 htk_1 htk_2 htk_3 htk_4 htk_5 htk_6 htk_7 htk_8 htk_9 htk_10 htk_11 htk_12 htk_13 htk_14 hr_2 fr_2 hr_4 fr_4 hB hsz hlz hltk hlr hnz0 hnz1 hkz1 hnz2 hkz2 hntk0 hntk1 hktk1 hntk2 hktk2 hnr0 hnr1 hkr1 hnr2 hkr2
     clear hb hz
     obtain ⟨⟨hz_0, fz_0⟩, ⟨hz_1, fz_1⟩, ⟨hz_2, fz_2⟩⟩ := T
     have hlz := L; clear L
     obtain ⟨hnz0, hnz1, hkz1, hnz2, hkz2⟩ := ap0 hlz
     have hB := hB'; clear hB'
     have hsz := hB.size
     have K3 := HK.out.trans (Kp.of_below hs_u2.out hlt (by simp only [World.size_setCell]; exact hzz))
     (try dsimp only)
     repeat (first | go_values | go_skip | go_guarded | go_step | go_upon)
     refine bodyPost_ret (v := .agg #[.int .i64 al, .int .i64 ac, .int .i64 10]) (by simp [results, Tryz.results40, go_sem, hz_0, hz_1, hz_2] <;> first | done | rfl) rfl (lnR_err (by rw [← HM.out]; rfl) (by rw [← HM.out]; rfl) (by rw [← HM.out]; rfl) (by decide) (by (repeat (refine Kp.setn ?_ hlt (by exact hsz0) _)); exact K3))
    ·skip
     have d1 : decide ((1000 : Int) < an) = false := decide_eq_false hm
     have hO := HO.out
     rw [List.cons_append, List.cons_append, settM_ok rfl rfl (show mayD an = true from by unfold mayD; rw [decide_eq_true (show an ≤ 1000 by omega), decide_eq_true han]; rfl)] at hO
     subst hO
     skip
     go_wp2_with fail
     refine bodyPost_ret (v := .agg #[.int .i64 0, .int .i64 0, .int .i64 0]) (by simp [results, Tryz.results40, go_sem, hz_0, hz_1, hz_2] <;> first | done | rfl) rfl (lnR_ok (vs := vs) (vk := vk) (by rw [← HM.out]; exact if_neg (by simp)) (by (repeat (refine Kp.setn ?_ hlt (by exact hsz0) _)); exact HK.out) ?_)
     have hRR := (HR.out.on HB1.out).setD an
     have ho := rq_own HR.out (Nat.le_refl w.heap.size)
     (repeat (refine Rq.setn ?_ (by show rb ≠ w.heap.size; omega) (by exact ho.1) (by exact ho.2) _))
     exact hRR
   ·skip
    try dsimp only at hr_4
    simp only [if_true] at hr_4
    have hO := HO.out
    rw [List.cons_append, List.cons_append, settM_told rfl rfl] at hO
    subst hO
    go_enter Tryz.func40, Tryz.ntmps40
    go_wp2_with fail
    refine wp_region_planT 10 (fun w' => w'.cell? ⟨w.heap.size, 0, none⟩ = some (.int .i64 0) ∧ w'.frozen? ⟨w.heap.size, 0, none⟩ = false ∧ w'.cell? ⟨w.heap.size, 1, none⟩ = some (.int .i64 0) ∧ w'.frozen? ⟨w.heap.size, 1, none⟩ = false ∧ w'.cell? ⟨w.heap.size, 2, none⟩ = some (.int .i64 0) ∧ w'.frozen? ⟨w.heap.size, 2, none⟩ = false ∧ w'.cell? ⟨g, o, none⟩ = some (.int .i64 1) ∧ w'.cell? ⟨g, o + 1, none⟩ = some (.string ⟨#[100, 101, 99, 108, 97, 115, 115, 105, 102, 121]⟩) ∧ w'.cell? ⟨g, o + 2, none⟩ = some (.int .i64 wn) ∧ w'.cell? ⟨g, o + 3, none⟩ = some (.int .i64 wl) ∧ w'.cell? ⟨g, o + 4, none⟩ = some (.int .i64 wcc) ∧ w'.cell? ⟨g, o + 5, none⟩ = some (.int .i64 2) ∧ w'.cell? ⟨g, o + 6, none⟩ = some (.string aT) ∧ w'.cell? ⟨g, o + 7, none⟩ = some (.int .i64 an) ∧ w'.cell? ⟨g, o + 8, none⟩ = some (.int .i64 al) ∧ w'.cell? ⟨g, o + 9, none⟩ = some (.int .i64 ac) ∧ w'.cell? ⟨g, o + 10, none⟩ = some (.int .i64 4) ∧ w'.cell? ⟨g, o + 11, none⟩ = some (.string zT) ∧ w'.cell? ⟨g, o + 12, none⟩ = some (.int .i64 zn) ∧ w'.cell? ⟨g, o + 13, none⟩ = some (.int .i64 zl) ∧ w'.cell? ⟨g, o + 14, none⟩ = some (.int .i64 zc) ∧ w'.cell? ⟨rb, 2, none⟩ = some (.int .i64 dn) ∧ w'.frozen? ⟨rb, 2, none⟩ = false ∧ w'.cell? ⟨rb, 4, none⟩ = some (.int .i64 1) ∧ w'.frozen? ⟨rb, 4, none⟩ = false ∧ Below w.heap.size w w') (by kernel_rfl) (by kernel_rfl) (by kernel_rfl) (by kernel_rfl) ?_ ?_
    ·(try dsimp only)
     refine ⟨?_, ?_, ?_, ?_, ?_, ?_, ?_, ?_, ?_, ?_, ?_, ?_, ?_, ?_, ?_, ?_, ?_, ?_, ?_, ?_, ?_, ?_, ?_, ?_, ?_, ?_⟩ <;> first | (go_simp; done) | (simp [*]; done) | go_grown
    (try simp only [append_eq, cons_append, nil_append, toList_toArray, take_succ_cons, take_zero, drop_succ_cons, drop_zero])
    repeat (first
     | (refine Plan.val (v := ?_) ?_ ?_ ?_; rotate_left; (· rfl); (· (intro W hSw; (try dsimp only at hSw); go_simp; all_goals (first | (with_reducible rfl) | (constructor <;> (with_reducible rfl)) | (rw [if_neg (by omega)]; done) | (rw [if_neg (by omega)]; with_reducible rfl)))); (try simp only [Act.put, setIfInBounds_toArray, set_cons_zero, set_cons_succ]))
     | (refine Plan.no ?_ ?_; (· rfl); (try simp only [Act.put, setIfInBounds_toArray, set_cons_zero, set_cons_succ])))
    refine Plan.done ?_
    intro u1 T
    (try dsimp only at T)
    obtain ⟨hz_0, fz_0, hz_1, fz_1, hz_2, fz_2, htk_0, htk_1, htk_2, htk_3, htk_4, htk_5, htk_6, htk_7, htk_8, htk_9, htk_10, htk_11, htk_12, htk_13, htk_14, hr_2, fr_2, hr_4, fr_4, hB⟩ := T
    have hsz := hB.size
    have hlz := klt hz_0
    have hltk := klt htk_0
    have hlr := klt hr_2
    obtain ⟨hnz0, hnz1, hkz1, hnz2, hkz2⟩ := ap0 hlz
    obtain ⟨hntk0, hntk1, hktk1, hntk2, hktk2⟩ := ap0 hltk
    obtain ⟨hnr0, hnr1, hkr1, hnr2, hkr2⟩ := ap0 hlr
    have HB1 := hid hB
    replace hB : Below 0 w u1 := hB.mono (Nat.zero_le _)
    have hbase : 0 ≤ w.heap.size := Nat.zero_le _
    have hzz : S0 ≤ u1.heap.size := Nat.le_trans hsz0 HB1.out.size
    go_wp2_with fail
    ((with_reducible refine (at_u _ _ _ _ _ _ _).mono ?_); rintro _ u2 ⟨rfl, hb⟩)
    have hs_u2 := hid hb
    have T : CF u2 w.heap.size 0 (.int .i64 0) ∧ CF u2 w.heap.size 1 (.int .i64 0) ∧ CF u2 w.heap.size 2 (.int .i64 0) := by
      refine ⟨⟨?_, ?_⟩, ⟨?_, ?_⟩, ⟨?_, ?_⟩⟩ <;> first | (refine kc hb ?_ <;> (go_simp; first | done | rfl)) | (refine kfz hb ?_ ?_ <;> first | (go_size; done) | (go_simp; done))
    have hz := hb.size
    (try simp only [szA] at hz)
    have L : w.heap.size < u2.heap.size := by omega
    have hB' : Below 0 w u2 := by
      refine kbn hbase ?_ hb
      go_grown
    clear hz_0 fz_0 hz_1 fz_1 hz_2 fz_2 htk_0 htk_1 htk_2 htk_3 htk_4 htk_5 htk_6 htk_7 htk_8 htk_9 htk_10 htk_11 htk_12 htk_13 htk_14 hr_2 fr_2 hr_4 fr_4 hB hsz hlz hltk hlr hnz0 hnz1 hkz1 hnz2 hkz2 hntk0 hntk1 hktk1 hntk2 hktk2 hnr0 hnr1 hkr1 hnr2 hkr2
    clear hb hz
    obtain ⟨⟨hz_0, fz_0⟩, ⟨hz_1, fz_1⟩, ⟨hz_2, fz_2⟩⟩ := T
    have hlz := L; clear L
    obtain ⟨hnz0, hnz1, hkz1, hnz2, hkz2⟩ := ap0 hlz
    have hB := hB'; clear hB'
    have hsz := hB.size
    have K3 := ((Kp.of_below HB1.out hlt hsz0).setr 4 (.int .i64 2)).trans (Kp.of_below hs_u2.out hlt (by simp only [World.size_setCell]; exact hzz))
    (try dsimp only)
    repeat (first | go_values | go_skip | go_guarded | go_step | go_upon)
    refine bodyPost_ret (v := .agg #[.int .i64 wl, .int .i64 wcc, .int .i64 16]) (by simp [results, Tryz.results40, go_sem, hz_0, hz_1, hz_2] <;> first | done | rfl) rfl (lnR_err (by rw [← HM.out]; rfl) (by rw [← HM.out]; rfl) (by rw [← HM.out]; rfl) (by decide) (by (repeat (refine Kp.setn ?_ hlt (by exact hsz0) _)); exact K3))
  ·have z1 : (zk == 4) = false := by simpa using z0
   have z2 : (zk != 4) = true := by simp [bne, z1]
   have hO := HO.out
   rw [List.cons_append, List.cons_append, settM_end rfl z0] at hO
   subst hO
   go_enter Tryz.func40, Tryz.ntmps40
   go_wp2_with fail
   ((with_reducible refine (at_u _ _ _ _ _ _ _).mono ?_); rintro _ u ⟨rfl, hb⟩)
   have T : CF u w.heap.size 0 (.int .i64 0) ∧ CF u w.heap.size 1 (.int .i64 0) ∧ CF u w.heap.size 2 (.int .i64 0) ∧ CC u g o (o + 1) (.int .i64 1) (.string ⟨#[100, 101, 99, 108, 97, 115, 115, 105, 102, 121]⟩) ∧ CC u g (o + 2) (o + 3) (.int .i64 wn) (.int .i64 wl) ∧ CC u g (o + 4) (o + 5) (.int .i64 wcc) (.int .i64 2) ∧ CC u g (o + 6) (o + 7) (.string aT) (.int .i64 an) ∧ CC u g (o + 8) (o + 9) (.int .i64 al) (.int .i64 ac) ∧ CC u g (o + 10) (o + 11) (.int .i64 zk) (.string zT) ∧ CC u g (o + 12) (o + 13) (.int .i64 zn) (.int .i64 zl) ∧ u.cell? ⟨g, o + 14, none⟩ = some (.int .i64 zc) := by
     refine ⟨⟨?_, ?_⟩, ⟨?_, ?_⟩, ⟨?_, ?_⟩, ⟨?_, ?_⟩, ⟨?_, ?_⟩, ⟨?_, ?_⟩, ⟨?_, ?_⟩, ⟨?_, ?_⟩, ⟨?_, ?_⟩, ⟨?_, ?_⟩, ?_⟩ <;> first | (refine kc hb ?_ <;> (go_simp; first | done | rfl)) | (refine kfz hb ?_ ?_ <;> first | (go_size; done) | (go_simp; done))
   have hz := hb.size
   (try simp only [szA] at hz)
   have L : w.heap.size < u.heap.size ∧ g < u.heap.size := by omega
   have hB' : Below w.heap.size w u := by
     refine kb ?_ hb
     go_grown
   clear hb hz
   obtain ⟨⟨hz_0, fz_0⟩, ⟨hz_1, fz_1⟩, ⟨hz_2, fz_2⟩, ⟨htk_0, htk_1⟩, ⟨htk_2, htk_3⟩, ⟨htk_4, htk_5⟩, ⟨htk_6, htk_7⟩, ⟨htk_8, htk_9⟩, ⟨htk_10, htk_11⟩, ⟨htk_12, htk_13⟩, htk_14⟩ := T
   obtain ⟨hlz, hltk⟩ := L
   obtain ⟨hnz0, hnz1, hkz1, hnz2, hkz2⟩ := ap0 hlz
   obtain ⟨hntk0, hntk1, hktk1, hntk2, hktk2⟩ := ap0 hltk
   have hB := hB'; clear hB'
   have hsz := hB.size
   (try dsimp only)
   repeat (first | go_values | go_skip | go_guarded | go_step | go_upon)
   refine bodyPost_ret (v := .agg #[.int .i64 zl, .int .i64 zc, .int .i64 11]) (by simp [results, Tryz.results40, go_sem, hz_0, hz_1, hz_2] <;> first | done | rfl) rfl (lnR_err (by rw [← HM.out]; rfl) (by rw [← HM.out]; rfl) (by rw [← HM.out]; rfl) (by decide) (Kp.of_below (by (repeat (refine Below.setCell ?_ (by first | exact Nat.le_refl _ | exact Nat.le_add_right _ _) _)); exact hB) hlt hsz0))
 ·have a1 : (ak == 2) = false := by simpa using a0
  have a2 : (ak != 2) = true := by simp [bne, a1]
  have hO := HO.out
  rw [List.cons_append, settM_kind a0] at hO
  subst hO
  go_enter Tryz.func40, Tryz.ntmps40
  go_wp2_with fail
  ((with_reducible refine (at_u _ _ _ _ _ _ _).mono ?_); rintro _ u ⟨rfl, hb⟩)
  have T : CF u w.heap.size 0 (.int .i64 0) ∧ CF u w.heap.size 1 (.int .i64 0) ∧ CF u w.heap.size 2 (.int .i64 0) ∧ CC u g o (o + 1) (.int .i64 1) (.string ⟨#[100, 101, 99, 108, 97, 115, 115, 105, 102, 121]⟩) ∧ CC u g (o + 2) (o + 3) (.int .i64 wn) (.int .i64 wl) ∧ CC u g (o + 4) (o + 5) (.int .i64 wcc) (.int .i64 ak) ∧ CC u g (o + 6) (o + 7) (.string aT) (.int .i64 an) ∧ CC u g (o + 8) (o + 9) (.int .i64 al) (.int .i64 ac) := by
    refine ⟨⟨?_, ?_⟩, ⟨?_, ?_⟩, ⟨?_, ?_⟩, ⟨?_, ?_⟩, ⟨?_, ?_⟩, ⟨?_, ?_⟩, ⟨?_, ?_⟩, ⟨?_, ?_⟩⟩ <;> first | (refine kc hb ?_ <;> (go_simp; first | done | rfl)) | (refine kfz hb ?_ ?_ <;> first | (go_size; done) | (go_simp; done))
  have hz := hb.size
  (try simp only [szA] at hz)
  have L : w.heap.size < u.heap.size ∧ g < u.heap.size := by omega
  have hB' : Below w.heap.size w u := by
    refine kb ?_ hb
    go_grown
  clear hb hz
  obtain ⟨⟨hz_0, fz_0⟩, ⟨hz_1, fz_1⟩, ⟨hz_2, fz_2⟩, ⟨htk_0, htk_1⟩, ⟨htk_2, htk_3⟩, ⟨htk_4, htk_5⟩, ⟨htk_6, htk_7⟩, ⟨htk_8, htk_9⟩⟩ := T
  obtain ⟨hlz, hltk⟩ := L
  obtain ⟨hnz0, hnz1, hkz1, hnz2, hkz2⟩ := ap0 hlz
  obtain ⟨hntk0, hntk1, hktk1, hntk2, hktk2⟩ := ap0 hltk
  have hB := hB'; clear hB'
  have hsz := hB.size
  (try dsimp only)
  repeat (first | go_values | go_skip | go_guarded | go_step | go_upon)
  refine bodyPost_ret (v := .agg #[.int .i64 al, .int .i64 ac, .int .i64 11]) (by simp [results, Tryz.results40, go_sem, hz_0, hz_1, hz_2] <;> first | done | rfl) rfl (lnR_err (by rw [← HM.out]; rfl) (by rw [← HM.out]; rfl) (by rw [← HM.out]; rfl) (by decide) (Kp.of_below (by (repeat (refine Below.setCell ?_ (by first | exact Nat.le_refl _ | exact Nat.le_add_right _ _) _)); exact hB) hlt hsz0))
set_option maxHeartbeats 4000000 in
theorem liner_tr (word : Tk) (ts rest : List Tk) (sp : List Mk) (dn tn : Int) (db tb : Bool) (hE : Ended (word :: ts)) (hP : Plains (word :: ts)) (hw : word.t = traceL) (rb S0 : Nat) (vs vk v : Value) (w : World) (hR : Rq rb S0 w sp vs vk dn db tn tb) (hv : HoldsT w v (word :: ts)) (hg : ∀ g, v.ownBlock = some g → g ≠ rb) : Calls Tryz.prog 40 #[.pointer (some ⟨rb, 0, none⟩), v] w (LnR rb S0 w (lineM word (ts ++ rest) sp dn db tn tb)) := by
 have hk1 : word.k = 1 := Classical.byContradiction fun h => by have := (hP word (by simp)).1 h; rw [hw] at this; cases this
 have hE1 := hE.tail (show word.k ≠ 4 by rw [hk1]; decide)
 have hlt := hR.lt
 have hsz0 := hR.sz
 rw [lineM_tr hw]
 rcases hv with ⟨_, h⟩ | ⟨g, o, cap, rfl, hcap, hc⟩
 ·cases h
 have hgr : g ≠ rb := hg g rfl
 obtain ⟨a, r, rfl⟩ := hE1.ne
 obtain ⟨n, hn⟩ : ∃ n, (word :: a :: r).length = n := ⟨_, rfl⟩
 rw [hn] at hcap ⊢
 have hn1 : 1 < n := by rw [← hn]; simp
 have hp0 : (0 : Int) < (n : Int) := by omega
 have hp1 : (1 : Int) < (n : Int) := by omega
 have HN := hid hn
 have HC := hid hc
 have hTw := tok_at hc 0 0 rfl rfl
 have hTa := tok_at hc 1 5 rfl rfl
 have han : 0 ≤ a.n := (hP a (by simp)).2
 have HE1 := hid hE1
 clear hn hc hg hP hE hE1
 obtain ⟨O, hO⟩ : ∃ O, settM tb mayT word (a :: r ++ rest) = O := ⟨_, rfl⟩
 rw [hO]
 have HO := hid hO
 clear hO
 obtain ⟨M, hM⟩ : ∃ M, ((if O.e ≠ 0 then ⟨O.e, O.li, O.co, [], [], 0, false, 0, false⟩ else ⟨0, 0, 0, O.r, sp, dn, db, O.n, true⟩ : LnO)) = M := ⟨_, rfl⟩
 rw [hM]
 have HM := hid hM
 clear hM
 obtain ⟨wk, wt, wn, wl, wcc⟩ := word
 obtain ⟨ak, at_, an, al, ac⟩ := a
 dsimp only at hTw hTa hw hk1 han
 subst hw
 subst hk1
 rw [Nat.add_zero, Nat.zero_add, Nat.zero_add, Nat.zero_add, Nat.zero_add, show txB traceL = (⟨#[116, 114, 97, 99, 101]⟩ : ByteArray) from rfl] at hTw
 generalize txB at_ = aT at *
 obtain ⟨htk_0, htk_1, htk_2, htk_3, htk_4⟩ := hTw
 obtain ⟨htk_5, htk_6, htk_7, htk_8, htk_9⟩ := hTa
 have hgw : g < w.heap.size := klt htk_0
 have hrw : rb < w.heap.size := by omega
 have HR := hid hR
 have hr_5 := hR.c5
 have fr_5 := hR.fr 5 (by omega)
 have hr_3 := hR.c3
 have fr_3 := hR.fr 3 (by omega)
 clear hR
 by_cases a0 : ak = 2
 ·subst a0
  obtain ⟨z, r2, rfl⟩ := (HE1.out.tail (show (2 : Int) ≠ 4 by decide)).ne
  have hn2 : 2 < n := by have := HN.out; simp only [List.length_cons] at this; omega
  have hp2 : (2 : Int) < (n : Int) := by omega
  have hTz := tok_at HC.out 2 10 rfl rfl
  obtain ⟨zk, zt, zn, zl, zc⟩ := z
  dsimp only at hTz
  generalize txB zt = zT at *
  obtain ⟨htk_10, htk_11, htk_12, htk_13, htk_14⟩ := hTz
  by_cases z0 : zk = 4
  ·subst z0
   have hr2e : r2 = [] := ((HE1.out.tail (show (2 : Int) ≠ 4 by decide)).single rfl)
   subst hr2e
   obtain ⟨B, hB0⟩ : ∃ B, tb = B := ⟨_, rfl⟩
   rw [hB0] at HO HR hr_5 hr_3
   cases B
   ·skip
    try dsimp only at hr_5 hr_3
    simp only [Bool.false_eq_true, if_false] at hr_5 hr_3
    go_enter Tryz.func40, Tryz.ntmps40
    go_wp2_with fail
    refine wp_region_planT 10 (fun w' => w'.cell? ⟨w.heap.size, 0, none⟩ = some (.int .i64 0) ∧ w'.frozen? ⟨w.heap.size, 0, none⟩ = false ∧ w'.cell? ⟨w.heap.size, 1, none⟩ = some (.int .i64 0) ∧ w'.frozen? ⟨w.heap.size, 1, none⟩ = false ∧ w'.cell? ⟨w.heap.size, 2, none⟩ = some (.int .i64 0) ∧ w'.frozen? ⟨w.heap.size, 2, none⟩ = false ∧ w'.cell? ⟨g, o, none⟩ = some (.int .i64 1) ∧ w'.cell? ⟨g, o + 1, none⟩ = some (.string ⟨#[116, 114, 97, 99, 101]⟩) ∧ w'.cell? ⟨g, o + 2, none⟩ = some (.int .i64 wn) ∧ w'.cell? ⟨g, o + 3, none⟩ = some (.int .i64 wl) ∧ w'.cell? ⟨g, o + 4, none⟩ = some (.int .i64 wcc) ∧ w'.cell? ⟨g, o + 5, none⟩ = some (.int .i64 2) ∧ w'.cell? ⟨g, o + 6, none⟩ = some (.string aT) ∧ w'.cell? ⟨g, o + 7, none⟩ = some (.int .i64 an) ∧ w'.cell? ⟨g, o + 8, none⟩ = some (.int .i64 al) ∧ w'.cell? ⟨g, o + 9, none⟩ = some (.int .i64 ac) ∧ w'.cell? ⟨g, o + 10, none⟩ = some (.int .i64 4) ∧ w'.cell? ⟨g, o + 11, none⟩ = some (.string zT) ∧ w'.cell? ⟨g, o + 12, none⟩ = some (.int .i64 zn) ∧ w'.cell? ⟨g, o + 13, none⟩ = some (.int .i64 zl) ∧ w'.cell? ⟨g, o + 14, none⟩ = some (.int .i64 zc) ∧ w'.cell? ⟨rb, 3, none⟩ = some (.int .i64 1024) ∧ w'.frozen? ⟨rb, 3, none⟩ = false ∧ w'.cell? ⟨rb, 5, none⟩ = some (.int .i64 0) ∧ w'.frozen? ⟨rb, 5, none⟩ = false ∧ Below w.heap.size w w') (by kernel_rfl) (by kernel_rfl) (by kernel_rfl) (by kernel_rfl) ?_ ?_
    ·(try dsimp only)
     refine ⟨?_, ?_, ?_, ?_, ?_, ?_, ?_, ?_, ?_, ?_, ?_, ?_, ?_, ?_, ?_, ?_, ?_, ?_, ?_, ?_, ?_, ?_, ?_, ?_, ?_, ?_⟩ <;> first | (go_simp; done) | (simp [*]; done) | go_grown
    (try simp only [append_eq, cons_append, nil_append, toList_toArray, take_succ_cons, take_zero, drop_succ_cons, drop_zero])
    repeat (first
     | (refine Plan.val (v := ?_) ?_ ?_ ?_; rotate_left; (· rfl); (· (intro W hSw; (try dsimp only at hSw); go_simp; all_goals (first | (with_reducible rfl) | (constructor <;> (with_reducible rfl)) | (rw [if_neg (by omega)]; done) | (rw [if_neg (by omega)]; with_reducible rfl)))); (try simp only [Act.put, setIfInBounds_toArray, set_cons_zero, set_cons_succ]))
     | (refine Plan.no ?_ ?_; (· rfl); (try simp only [Act.put, setIfInBounds_toArray, set_cons_zero, set_cons_succ])))
    refine Plan.done ?_
    intro u1 T
    (try dsimp only at T)
    obtain ⟨hz_0, fz_0, hz_1, fz_1, hz_2, fz_2, htk_0, htk_1, htk_2, htk_3, htk_4, htk_5, htk_6, htk_7, htk_8, htk_9, htk_10, htk_11, htk_12, htk_13, htk_14, hr_3, fr_3, hr_5, fr_5, hB⟩ := T
    have hsz := hB.size
    have hlz := klt hz_0
    have hltk := klt htk_0
    have hlr := klt hr_3
    obtain ⟨hnz0, hnz1, hkz1, hnz2, hkz2⟩ := ap0 hlz
    obtain ⟨hntk0, hntk1, hktk1, hntk2, hktk2⟩ := ap0 hltk
    obtain ⟨hnr0, hnr1, hkr1, hnr2, hkr2⟩ := ap0 hlr
    have HB1 := hid hB
    replace hB : Below 0 w u1 := hB.mono (Nat.zero_le _)
    have hbase : 0 ≤ w.heap.size := Nat.zero_le _
    have HK := hid (((Kp.of_below HB1.out hlt hsz0).setr 5 (.int .i64 1)).setr 3 (.int .i64 an))
    have hzz : S0 ≤ u1.heap.size := Nat.le_trans hsz0 HB1.out.size
    by_cases hm : an < 1
    ·skip
     have d1 : decide (an < 1) = true := decide_eq_true hm
     have hO := HO.out
     rw [List.cons_append, List.cons_append, settM_range rfl rfl (show mayT an = false from by unfold mayT; rw [decide_eq_false (show ¬ 1 ≤ an by omega), Bool.false_and])] at hO
     subst hO
     go_wp2_with fail
     ((with_reducible refine (at_u _ _ _ _ _ _ _).mono ?_); rintro _ u2 ⟨rfl, hb⟩)
     have hs_u2 := hid hb
     have T : CF u2 w.heap.size 0 (.int .i64 0) ∧ CF u2 w.heap.size 1 (.int .i64 0) ∧ CF u2 w.heap.size 2 (.int .i64 0) := by
       refine ⟨⟨?_, ?_⟩, ⟨?_, ?_⟩, ⟨?_, ?_⟩⟩ <;> first | (refine kc hb ?_ <;> (go_simp; first | done | rfl)) | (refine kfz hb ?_ ?_ <;> first | (go_size; done) | (go_simp; done))
     have hz := hb.size
     (try simp only [szA] at hz)
     have L : w.heap.size < u2.heap.size := by omega
     have hB' : Below 0 w u2 := by
       refine kbn hbase ?_ hb
       go_grown
     clear hz_0 fz_0 hz_1 fz_1 hz_2 fz_2 htk_0 htk_1 htk_2 htk_3 htk_4 htk_5 htk_6 htk_7 htk_8 htk_9 htk_10 htk_11 htk_12 htk_13 htk_14 hr_3 fr_3 hr_5 fr_5 hB hsz hlz hltk hlr hnz0 hnz1 hkz1 hnz2 hkz2 hntk0 hntk1 hktk1 hntk2 hktk2 hnr0 hnr1 hkr1 hnr2 hkr2
     clear hb hz
     obtain ⟨⟨hz_0, fz_0⟩, ⟨hz_1, fz_1⟩, ⟨hz_2, fz_2⟩⟩ := T
     have hlz := L; clear L
     obtain ⟨hnz0, hnz1, hkz1, hnz2, hkz2⟩ := ap0 hlz
     have hB := hB'; clear hB'
     have hsz := hB.size
     have K3 := HK.out.trans (Kp.of_below hs_u2.out hlt (by simp only [World.size_setCell]; exact hzz))
     (try dsimp only)
     repeat (first | go_values | go_skip | go_guarded | go_step | go_upon)
     refine bodyPost_ret (v := .agg #[.int .i64 al, .int .i64 ac, .int .i64 10]) (by simp [results, Tryz.results40, go_sem, hz_0, hz_1, hz_2] <;> first | done | rfl) rfl (lnR_err (by rw [← HM.out]; rfl) (by rw [← HM.out]; rfl) (by rw [← HM.out]; rfl) (by decide) (by (repeat (refine Kp.setn ?_ hlt (by exact hsz0) _)); exact K3))
    ·by_cases hm2 : 4096 < an
     ·skip
      have d1 : decide (an < 1) = false := decide_eq_false hm
      have d2 : decide ((4096 : Int) < an) = true := decide_eq_true hm2
      have hO := HO.out
      rw [List.cons_append, List.cons_append, settM_range rfl rfl (show mayT an = false from by unfold mayT; rw [decide_eq_false (show ¬ an ≤ 4096 by omega), Bool.and_false])] at hO
      subst hO
      go_wp2_with fail
      ((with_reducible refine (at_u _ _ _ _ _ _ _).mono ?_); rintro _ u2 ⟨rfl, hb⟩)
      have hs_u2 := hid hb
      have T : CF u2 w.heap.size 0 (.int .i64 0) ∧ CF u2 w.heap.size 1 (.int .i64 0) ∧ CF u2 w.heap.size 2 (.int .i64 0) := by
        refine ⟨⟨?_, ?_⟩, ⟨?_, ?_⟩, ⟨?_, ?_⟩⟩ <;> first | (refine kc hb ?_ <;> (go_simp; first | done | rfl)) | (refine kfz hb ?_ ?_ <;> first | (go_size; done) | (go_simp; done))
      have hz := hb.size
      (try simp only [szA] at hz)
      have L : w.heap.size < u2.heap.size := by omega
      have hB' : Below 0 w u2 := by
        refine kbn hbase ?_ hb
        go_grown
      clear hz_0 fz_0 hz_1 fz_1 hz_2 fz_2 htk_0 htk_1 htk_2 htk_3 htk_4 htk_5 htk_6 htk_7 htk_8 htk_9 htk_10 htk_11 htk_12 htk_13 htk_14 hr_3 fr_3 hr_5 fr_5 hB hsz hlz hltk hlr hnz0 hnz1 hkz1 hnz2 hkz2 hntk0 hntk1 hktk1 hntk2 hktk2 hnr0 hnr1 hkr1 hnr2 hkr2
      clear hb hz
      obtain ⟨⟨hz_0, fz_0⟩, ⟨hz_1, fz_1⟩, ⟨hz_2, fz_2⟩⟩ := T
      have hlz := L; clear L
      obtain ⟨hnz0, hnz1, hkz1, hnz2, hkz2⟩ := ap0 hlz
      have hB := hB'; clear hB'
      have hsz := hB.size
      have K3 := HK.out.trans (Kp.of_below hs_u2.out hlt (by simp only [World.size_setCell]; exact hzz))
      (try dsimp only)
      repeat (first | go_values | go_skip | go_guarded | go_step | go_upon)
      refine bodyPost_ret (v := .agg #[.int .i64 al, .int .i64 ac, .int .i64 10]) (by simp [results, Tryz.results40, go_sem, hz_0, hz_1, hz_2] <;> first | done | rfl) rfl (lnR_err (by rw [← HM.out]; rfl) (by rw [← HM.out]; rfl) (by rw [← HM.out]; rfl) (by decide) (by (repeat (refine Kp.setn ?_ hlt (by exact hsz0) _)); exact K3))
     ·skip
      have d1 : decide (an < 1) = false := decide_eq_false hm
      have d2 : decide ((4096 : Int) < an) = false := decide_eq_false hm2
      have hO := HO.out
      rw [List.cons_append, List.cons_append, settM_ok rfl rfl (show mayT an = true from by unfold mayT; rw [decide_eq_true (show an ≤ 4096 by omega), decide_eq_true (show 1 ≤ an by omega)]; rfl)] at hO
      subst hO
      skip
      go_wp2_with fail
      refine bodyPost_ret (v := .agg #[.int .i64 0, .int .i64 0, .int .i64 0]) (by simp [results, Tryz.results40, go_sem, hz_0, hz_1, hz_2] <;> first | done | rfl) rfl (lnR_ok (vs := vs) (vk := vk) (by rw [← HM.out]; exact if_neg (by simp)) (by (repeat (refine Kp.setn ?_ hlt (by exact hsz0) _)); exact HK.out) ?_)
      have hRR := (HR.out.on HB1.out).setT an
      have ho := rq_own HR.out (Nat.le_refl w.heap.size)
      (repeat (refine Rq.setn ?_ (by show rb ≠ w.heap.size; omega) (by exact ho.1) (by exact ho.2) _))
      exact hRR
   ·skip
    try dsimp only at hr_5 hr_3
    simp only [if_true] at hr_5 hr_3
    have hO := HO.out
    rw [List.cons_append, List.cons_append, settM_told rfl rfl] at hO
    subst hO
    go_enter Tryz.func40, Tryz.ntmps40
    go_wp2_with fail
    refine wp_region_planT 10 (fun w' => w'.cell? ⟨w.heap.size, 0, none⟩ = some (.int .i64 0) ∧ w'.frozen? ⟨w.heap.size, 0, none⟩ = false ∧ w'.cell? ⟨w.heap.size, 1, none⟩ = some (.int .i64 0) ∧ w'.frozen? ⟨w.heap.size, 1, none⟩ = false ∧ w'.cell? ⟨w.heap.size, 2, none⟩ = some (.int .i64 0) ∧ w'.frozen? ⟨w.heap.size, 2, none⟩ = false ∧ w'.cell? ⟨g, o, none⟩ = some (.int .i64 1) ∧ w'.cell? ⟨g, o + 1, none⟩ = some (.string ⟨#[116, 114, 97, 99, 101]⟩) ∧ w'.cell? ⟨g, o + 2, none⟩ = some (.int .i64 wn) ∧ w'.cell? ⟨g, o + 3, none⟩ = some (.int .i64 wl) ∧ w'.cell? ⟨g, o + 4, none⟩ = some (.int .i64 wcc) ∧ w'.cell? ⟨g, o + 5, none⟩ = some (.int .i64 2) ∧ w'.cell? ⟨g, o + 6, none⟩ = some (.string aT) ∧ w'.cell? ⟨g, o + 7, none⟩ = some (.int .i64 an) ∧ w'.cell? ⟨g, o + 8, none⟩ = some (.int .i64 al) ∧ w'.cell? ⟨g, o + 9, none⟩ = some (.int .i64 ac) ∧ w'.cell? ⟨g, o + 10, none⟩ = some (.int .i64 4) ∧ w'.cell? ⟨g, o + 11, none⟩ = some (.string zT) ∧ w'.cell? ⟨g, o + 12, none⟩ = some (.int .i64 zn) ∧ w'.cell? ⟨g, o + 13, none⟩ = some (.int .i64 zl) ∧ w'.cell? ⟨g, o + 14, none⟩ = some (.int .i64 zc) ∧ w'.cell? ⟨rb, 3, none⟩ = some (.int .i64 tn) ∧ w'.frozen? ⟨rb, 3, none⟩ = false ∧ w'.cell? ⟨rb, 5, none⟩ = some (.int .i64 1) ∧ w'.frozen? ⟨rb, 5, none⟩ = false ∧ Below w.heap.size w w') (by kernel_rfl) (by kernel_rfl) (by kernel_rfl) (by kernel_rfl) ?_ ?_
    ·(try dsimp only)
     refine ⟨?_, ?_, ?_, ?_, ?_, ?_, ?_, ?_, ?_, ?_, ?_, ?_, ?_, ?_, ?_, ?_, ?_, ?_, ?_, ?_, ?_, ?_, ?_, ?_, ?_, ?_⟩ <;> first | (go_simp; done) | (simp [*]; done) | go_grown
    (try simp only [append_eq, cons_append, nil_append, toList_toArray, take_succ_cons, take_zero, drop_succ_cons, drop_zero])
    repeat (first
     | (refine Plan.val (v := ?_) ?_ ?_ ?_; rotate_left; (· rfl); (· (intro W hSw; (try dsimp only at hSw); go_simp; all_goals (first | (with_reducible rfl) | (constructor <;> (with_reducible rfl)) | (rw [if_neg (by omega)]; done) | (rw [if_neg (by omega)]; with_reducible rfl)))); (try simp only [Act.put, setIfInBounds_toArray, set_cons_zero, set_cons_succ]))
     | (refine Plan.no ?_ ?_; (· rfl); (try simp only [Act.put, setIfInBounds_toArray, set_cons_zero, set_cons_succ])))
    refine Plan.done ?_
    intro u1 T
    (try dsimp only at T)
    obtain ⟨hz_0, fz_0, hz_1, fz_1, hz_2, fz_2, htk_0, htk_1, htk_2, htk_3, htk_4, htk_5, htk_6, htk_7, htk_8, htk_9, htk_10, htk_11, htk_12, htk_13, htk_14, hr_3, fr_3, hr_5, fr_5, hB⟩ := T
    have hsz := hB.size
    have hlz := klt hz_0
    have hltk := klt htk_0
    have hlr := klt hr_3
    obtain ⟨hnz0, hnz1, hkz1, hnz2, hkz2⟩ := ap0 hlz
    obtain ⟨hntk0, hntk1, hktk1, hntk2, hktk2⟩ := ap0 hltk
    obtain ⟨hnr0, hnr1, hkr1, hnr2, hkr2⟩ := ap0 hlr
    have HB1 := hid hB
    replace hB : Below 0 w u1 := hB.mono (Nat.zero_le _)
    have hbase : 0 ≤ w.heap.size := Nat.zero_le _
    have hzz : S0 ≤ u1.heap.size := Nat.le_trans hsz0 HB1.out.size
    go_wp2_with fail
    ((with_reducible refine (at_u _ _ _ _ _ _ _).mono ?_); rintro _ u2 ⟨rfl, hb⟩)
    have hs_u2 := hid hb
    have T : CF u2 w.heap.size 0 (.int .i64 0) ∧ CF u2 w.heap.size 1 (.int .i64 0) ∧ CF u2 w.heap.size 2 (.int .i64 0) := by
      refine ⟨⟨?_, ?_⟩, ⟨?_, ?_⟩, ⟨?_, ?_⟩⟩ <;> first | (refine kc hb ?_ <;> (go_simp; first | done | rfl)) | (refine kfz hb ?_ ?_ <;> first | (go_size; done) | (go_simp; done))
    have hz := hb.size
    (try simp only [szA] at hz)
    have L : w.heap.size < u2.heap.size := by omega
    have hB' : Below 0 w u2 := by
      refine kbn hbase ?_ hb
      go_grown
    clear hz_0 fz_0 hz_1 fz_1 hz_2 fz_2 htk_0 htk_1 htk_2 htk_3 htk_4 htk_5 htk_6 htk_7 htk_8 htk_9 htk_10 htk_11 htk_12 htk_13 htk_14 hr_3 fr_3 hr_5 fr_5 hB hsz hlz hltk hlr hnz0 hnz1 hkz1 hnz2 hkz2 hntk0 hntk1 hktk1 hntk2 hktk2 hnr0 hnr1 hkr1 hnr2 hkr2
    clear hb hz
    obtain ⟨⟨hz_0, fz_0⟩, ⟨hz_1, fz_1⟩, ⟨hz_2, fz_2⟩⟩ := T
    have hlz := L; clear L
    obtain ⟨hnz0, hnz1, hkz1, hnz2, hkz2⟩ := ap0 hlz
    have hB := hB'; clear hB'
    have hsz := hB.size
    have K3 := ((Kp.of_below HB1.out hlt hsz0).setr 5 (.int .i64 2)).trans (Kp.of_below hs_u2.out hlt (by simp only [World.size_setCell]; exact hzz))
    (try dsimp only)
    repeat (first | go_values | go_skip | go_guarded | go_step | go_upon)
    refine bodyPost_ret (v := .agg #[.int .i64 wl, .int .i64 wcc, .int .i64 16]) (by simp [results, Tryz.results40, go_sem, hz_0, hz_1, hz_2] <;> first | done | rfl) rfl (lnR_err (by rw [← HM.out]; rfl) (by rw [← HM.out]; rfl) (by rw [← HM.out]; rfl) (by decide) (by (repeat (refine Kp.setn ?_ hlt (by exact hsz0) _)); exact K3))
  ·have z1 : (zk == 4) = false := by simpa using z0
   have z2 : (zk != 4) = true := by simp [bne, z1]
   have hO := HO.out
   rw [List.cons_append, List.cons_append, settM_end rfl z0] at hO
   subst hO
   go_enter Tryz.func40, Tryz.ntmps40
   go_wp2_with fail
   ((with_reducible refine (at_u _ _ _ _ _ _ _).mono ?_); rintro _ u ⟨rfl, hb⟩)
   have T : CF u w.heap.size 0 (.int .i64 0) ∧ CF u w.heap.size 1 (.int .i64 0) ∧ CF u w.heap.size 2 (.int .i64 0) ∧ CC u g o (o + 1) (.int .i64 1) (.string ⟨#[116, 114, 97, 99, 101]⟩) ∧ CC u g (o + 2) (o + 3) (.int .i64 wn) (.int .i64 wl) ∧ CC u g (o + 4) (o + 5) (.int .i64 wcc) (.int .i64 2) ∧ CC u g (o + 6) (o + 7) (.string aT) (.int .i64 an) ∧ CC u g (o + 8) (o + 9) (.int .i64 al) (.int .i64 ac) ∧ CC u g (o + 10) (o + 11) (.int .i64 zk) (.string zT) ∧ CC u g (o + 12) (o + 13) (.int .i64 zn) (.int .i64 zl) ∧ u.cell? ⟨g, o + 14, none⟩ = some (.int .i64 zc) := by
     refine ⟨⟨?_, ?_⟩, ⟨?_, ?_⟩, ⟨?_, ?_⟩, ⟨?_, ?_⟩, ⟨?_, ?_⟩, ⟨?_, ?_⟩, ⟨?_, ?_⟩, ⟨?_, ?_⟩, ⟨?_, ?_⟩, ⟨?_, ?_⟩, ?_⟩ <;> first | (refine kc hb ?_ <;> (go_simp; first | done | rfl)) | (refine kfz hb ?_ ?_ <;> first | (go_size; done) | (go_simp; done))
   have hz := hb.size
   (try simp only [szA] at hz)
   have L : w.heap.size < u.heap.size ∧ g < u.heap.size := by omega
   have hB' : Below w.heap.size w u := by
     refine kb ?_ hb
     go_grown
   clear hb hz
   obtain ⟨⟨hz_0, fz_0⟩, ⟨hz_1, fz_1⟩, ⟨hz_2, fz_2⟩, ⟨htk_0, htk_1⟩, ⟨htk_2, htk_3⟩, ⟨htk_4, htk_5⟩, ⟨htk_6, htk_7⟩, ⟨htk_8, htk_9⟩, ⟨htk_10, htk_11⟩, ⟨htk_12, htk_13⟩, htk_14⟩ := T
   obtain ⟨hlz, hltk⟩ := L
   obtain ⟨hnz0, hnz1, hkz1, hnz2, hkz2⟩ := ap0 hlz
   obtain ⟨hntk0, hntk1, hktk1, hntk2, hktk2⟩ := ap0 hltk
   have hB := hB'; clear hB'
   have hsz := hB.size
   (try dsimp only)
   repeat (first | go_values | go_skip | go_guarded | go_step | go_upon)
   refine bodyPost_ret (v := .agg #[.int .i64 zl, .int .i64 zc, .int .i64 11]) (by simp [results, Tryz.results40, go_sem, hz_0, hz_1, hz_2] <;> first | done | rfl) rfl (lnR_err (by rw [← HM.out]; rfl) (by rw [← HM.out]; rfl) (by rw [← HM.out]; rfl) (by decide) (Kp.of_below (by (repeat (refine Below.setCell ?_ (by first | exact Nat.le_refl _ | exact Nat.le_add_right _ _) _)); exact hB) hlt hsz0))
 ·have a1 : (ak == 2) = false := by simpa using a0
  have a2 : (ak != 2) = true := by simp [bne, a1]
  have hO := HO.out
  rw [List.cons_append, settM_kind a0] at hO
  subst hO
  go_enter Tryz.func40, Tryz.ntmps40
  go_wp2_with fail
  ((with_reducible refine (at_u _ _ _ _ _ _ _).mono ?_); rintro _ u ⟨rfl, hb⟩)
  have T : CF u w.heap.size 0 (.int .i64 0) ∧ CF u w.heap.size 1 (.int .i64 0) ∧ CF u w.heap.size 2 (.int .i64 0) ∧ CC u g o (o + 1) (.int .i64 1) (.string ⟨#[116, 114, 97, 99, 101]⟩) ∧ CC u g (o + 2) (o + 3) (.int .i64 wn) (.int .i64 wl) ∧ CC u g (o + 4) (o + 5) (.int .i64 wcc) (.int .i64 ak) ∧ CC u g (o + 6) (o + 7) (.string aT) (.int .i64 an) ∧ CC u g (o + 8) (o + 9) (.int .i64 al) (.int .i64 ac) := by
    refine ⟨⟨?_, ?_⟩, ⟨?_, ?_⟩, ⟨?_, ?_⟩, ⟨?_, ?_⟩, ⟨?_, ?_⟩, ⟨?_, ?_⟩, ⟨?_, ?_⟩, ⟨?_, ?_⟩⟩ <;> first | (refine kc hb ?_ <;> (go_simp; first | done | rfl)) | (refine kfz hb ?_ ?_ <;> first | (go_size; done) | (go_simp; done))
  have hz := hb.size
  (try simp only [szA] at hz)
  have L : w.heap.size < u.heap.size ∧ g < u.heap.size := by omega
  have hB' : Below w.heap.size w u := by
    refine kb ?_ hb
    go_grown
  clear hb hz
  obtain ⟨⟨hz_0, fz_0⟩, ⟨hz_1, fz_1⟩, ⟨hz_2, fz_2⟩, ⟨htk_0, htk_1⟩, ⟨htk_2, htk_3⟩, ⟨htk_4, htk_5⟩, ⟨htk_6, htk_7⟩, ⟨htk_8, htk_9⟩⟩ := T
  obtain ⟨hlz, hltk⟩ := L
  obtain ⟨hnz0, hnz1, hkz1, hnz2, hkz2⟩ := ap0 hlz
  obtain ⟨hntk0, hntk1, hktk1, hntk2, hktk2⟩ := ap0 hltk
  have hB := hB'; clear hB'
  have hsz := hB.size
  (try dsimp only)
  repeat (first | go_values | go_skip | go_guarded | go_step | go_upon)
  refine bodyPost_ret (v := .agg #[.int .i64 al, .int .i64 ac, .int .i64 11]) (by simp [results, Tryz.results40, go_sem, hz_0, hz_1, hz_2] <;> first | done | rfl) rfl (lnR_err (by rw [← HM.out]; rfl) (by rw [← HM.out]; rfl) (by rw [← HM.out]; rfl) (by decide) (Kp.of_below (by (repeat (refine Below.setCell ?_ (by first | exact Nat.le_refl _ | exact Nat.le_add_right _ _) _)); exact hB) hlt hsz0))
theorem tok2_size (w : World) : (Go.sizeOf 93).run Tryz.prog w = .ok 5 w := by kernel_rfl
theorem slice_part (g o n cap a b : Nat) (ha : a ≤ b) (hb : b ≤ cap) (hc : a < cap) (W : World) : (Instr.slice 85 (.slice (some ⟨g, o, none⟩) n cap) (some (.int .i64 (a : Int))) (some (.int .i64 (b : Int))) none).run Tryz.prog W = .ok (.slice (some ⟨g, o + a * 5, none⟩) (b - a) (cap - a)) W := by
 have e := tok2_size W
 have e2 := run_underlying (w := W) Tryz.underlying85
 have h1 : ¬ ((b : Int) < (a : Int)) := by omega
 have h2 : ¬ ((cap : Int) < (b : Int)) := by omega
 have h3 : ¬ cap = a := by omega
 simp [Instr.slice, Instr.sliceBounds, Instr.sliceBound, asIntOf, e2, e, go_sem]
 all_goals (repeat (first | rw [if_pos (by omega)] | rw [if_neg (by omega)]))
 all_goals (simp [h3])
theorem slice_tail (g o n cap : Nat) (hc : n + 1 ≤ cap) (W : World) : (Instr.slice 85 (.slice (some ⟨g, o, none⟩) (n + 1) cap) (some (.int .i64 1)) none none).run Tryz.prog W = .ok (.slice (some (if cap = 1 then ⟨g, o, none⟩ else ⟨g, o + 5, none⟩)) n (cap - 1)) W := by
 have e := tok2_size W
 have e2 := run_underlying (w := W) Tryz.underlying85
 simp [Instr.slice, Instr.sliceBounds, Instr.sliceBound, asIntOf, e2, e, go_sem]
 rw [if_pos (by omega)]
 by_cases c : cap = 1 <;> simp [c]
theorem grown_far {w u w' : World} {B size n : Nat} {e : TypeId} {v : Value} {xs : List Value} (ho : w.ownsRow B e size v n xs) (hg : u.grownBy w' v.ownBlock) {b o : Nat} {x : Value} (hb : w.heap.size ≤ b) (h : u.cell? ⟨b, o, none⟩ = some x) : w'.cell? ⟨b, o, none⟩ = some x :=
 hg.cell h (fun e => by have := (ho.lt _ e.symm).2; dsimp only at this; omega)
theorem grown_farf {w u w' : World} {B size n : Nat} {e : TypeId} {v : Value} {xs : List Value} (ho : w.ownsRow B e size v n xs) (hg : u.grownBy w' v.ownBlock) {b o : Nat} (hb : w.heap.size ≤ b) (hl : b < u.heap.size) (h : u.frozen? ⟨b, o, none⟩ = false) : w'.frozen? ⟨b, o, none⟩ = false :=
 (World.frozen?_of_block (w := u) (hg.block b hl (fun e => by have := (ho.lt _ e.symm).2; omega))).trans h
end Go.Proofs.YtjcmblbnbpikfaaGreatDoor
