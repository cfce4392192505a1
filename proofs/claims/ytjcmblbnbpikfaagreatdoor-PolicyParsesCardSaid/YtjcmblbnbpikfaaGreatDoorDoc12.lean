/- Layer 7's document: its -/
import Derived.Test.YtjcmblbnbpikfaaGreatDoorDoc12a
set_option linter.unusedSimpArgs false
set_option linter.unusedVariables false
namespace Go.Proofs.YtjcmblbnbpikfaaGreatDoor
open Lib (hid)
open List (setIfInBounds_toArray set_cons_zero set_cons_succ append_eq cons_append nil_append toList_toArray take_succ_cons take_zero drop_succ_cons drop_zero)
open Go.RowKit Go.PlainAid
set_option maxRecDepth 100000 in
set_option maxHeartbeats 8000000 in
theorem liner_se (word : Tk) (ts rest : List Tk) (sp : List Mk) (dn tn : Int) (db tb : Bool) (hE : Ended (word :: ts)) (hP : Plains (word :: ts)) (hs : sp.length ≤ 64) (hw : word.t = secretL) (rb S0 : Nat) (vs vk v : Value) (w : World) (hR : Rq rb S0 w sp vs vk dn db tn tb) (hv : HoldsT w v (word :: ts)) (hg : ∀ g, v.ownBlock = some g → g ≠ rb) : Calls Tryz.prog 40 #[.pointer (some ⟨rb, 0, none⟩), v] w (LnR rb S0 w (lineM word (ts ++ rest) sp dn db tn tb)) := by
 have hk1 : word.k = 1 := Classical.byContradiction fun h => by have := (hP word (by simp)).1 h; rw [hw] at this; cases this
 have hE1 := hE.tail (show word.k ≠ 4 by rw [hk1]; decide)
 have hTx : Texts ts := fun c h => (hP c (List.mem_cons_of_mem _ h)).1
 have hlt := hR.lt
 have hsz0 := hR.sz
 rw [lineM_sp (sink := false) hw]
 have HE2 := hid (fun h => spLn_err1 (sink := false) (word := word) (rest := rest) (sp := sp) (dn := dn) (db := db) (tn := tn) (tb := tb) hE1 hTx h)
 have HE3 := hid (fun h h' => spLn_err2 (sink := false) (word := word) (rest := rest) (sp := sp) (dn := dn) (db := db) (tn := tn) (tb := tb) hE1 hTx hs h h')
 have HE4 := hid (fun h h' => spLn_done (sink := false) (word := word) (rest := rest) (sp := sp) (dn := dn) (db := db) (tn := tn) (tb := tb) hE1 hTx hs h h')
 have HSp := hid (fun V W h => (show Calls Tryz.prog 60 #[V, .bool true] W (SpEnd W (spanR false ts)) from spanr_c false ts hE1 hTx V W h))
 obtain ⟨O, hO⟩ : ∃ O, spLn false word (ts ++ rest) sp dn db tn tb = O := ⟨_, rfl⟩
 rw [hO] at HE2 HE3 HE4 ⊢
 obtain ⟨R, hRR⟩ : ∃ R, spanR false ts = R := ⟨_, rfl⟩
 rw [hRR] at HE2 HE3 HE4 HSp
 clear hO hRR
 obtain ⟨⟨xf, xt, xb⟩, li, co, e⟩ := R
 unfold SpEnd at HSp
 dsimp only at HE2 HE3 HE4 HSp
 rcases hv with ⟨_, h⟩ | ⟨g, o, cap, rfl, hcap, hc⟩
 ·cases h
 have hgr : g ≠ rb := hg g rfl
 have hl1 : (word :: ts).length = ts.length + 1 := rfl
 have HVs := hid (rest_holds hcap hc)
 rw [hl1] at hcap ⊢
 have hsl := slice_tail g o ts.length cap hcap
 obtain ⟨V, hV⟩ : ∃ V : Value, V = .slice (some (if cap = 1 then (⟨g, o, none⟩ : Addr) else ⟨g, o + 5, none⟩)) ts.length (cap - 1) := ⟨_, rfl⟩
 rw [← hV] at HVs hsl
 clear hV
 obtain ⟨n, hn⟩ : ∃ n, ts.length + 1 = n := ⟨_, rfl⟩
 rw [hn] at hcap hsl ⊢
 have hn0 : 0 < n := by omega
 have hp0 : (0 : Int) < (n : Int) := by omega
 have hTw := tok_at hc 0 0 rfl rfl
 clear hn hc hg hP hE hE1 hTx hl1
 obtain ⟨wk, wt, wn, wl, wcc⟩ := word
 dsimp only at hTw hw hk1 HE3
 subst hw
 subst hk1
 rw [Nat.add_zero, Nat.zero_add, Nat.zero_add, Nat.zero_add, Nat.zero_add, show txB secretL = (⟨#[115, 101, 99, 114, 101, 116]⟩ : ByteArray) from rfl] at hTw
 obtain ⟨htk_0, htk_1, htk_2, htk_3, htk_4⟩ := hTw
 have hgw : g < w.heap.size := klt htk_0
 have hrw : rb < w.heap.size := by omega
 have HR := hid hR
 have hlen : (ofM false sp).length + (ofM true sp).length = sp.length := ofM_both false sp
 have HLn := hid hlen
 obtain ⟨p1, c1, rfl⟩ := own_form hR.os
 obtain ⟨p2, c2, rfl⟩ := own_form hR.ok
 have HAd := hid (fun W (hb : Below w.heap.size w W) => addr_c xf xt xb (ofM false sp) (ofM true sp) (by omega) (by omega) _ _ W ((HoldsE.own pl_len hR.os).below hb) ((HoldsE.own pl_len hR.ok).below hb))
 obtain ⟨A, hA⟩ : ∃ A, addD ⟨xf, xt, xb⟩ (ofM false sp) (ofM true sp) = A := ⟨_, rfl⟩
 have hNK : ofM (!false) sp = ofM true sp := rfl
 rw [hNK] at HE3 HE4
 rw [hA] at HAd HE3 HE4
 obtain ⟨m1, hm1⟩ : ∃ m, (ofM false sp).length = m := ⟨_, rfl⟩
 obtain ⟨m2, hm2⟩ : ∃ m, (ofM true sp).length = m := ⟨_, rfl⟩
 have hr_0 := hR.rs
 have hr_1 := hR.rk
 have fr_0 := hR.fr 0 (by omega)
 have fr_1 := hR.fr 1 (by omega)
 rw [hm1] at hr_0
 rw [hm2] at hr_1
 rw [hm1, hm2] at HAd HR
 have HM := hid (And.intro hm1 hm2)
 clear hR hlen hA hNK hm1 hm2
 obtain ⟨i0, hi, hz0, hz1, hz2⟩ := info_parts Tryz.infoE
 go_enter Tryz.func40, Tryz.ntmps40
 go_wp2_with fail
 ((with_reducible refine (HSp.out _ _ (HVs.out.below (by first | exact (Below.refl _ _).alloc (Nat.le_refl _) _ | go_grown))).mono ?_); rintro _ u1 ⟨rfl, hb⟩)
 have T : CF u1 w.heap.size 0 (.int .i64 0) ∧ CF u1 w.heap.size 1 (.int .i64 0) ∧ CF u1 w.heap.size 2 (.int .i64 0) ∧ CC u1 g o (o + 1) (.int .i64 1) (.string ⟨#[115, 101, 99, 114, 101, 116]⟩) ∧ CC u1 g (o + 2) (o + 3) (.int .i64 wn) (.int .i64 wl) ∧ u1.cell? ⟨g, o + 4, none⟩ = some (.int .i64 wcc) ∧ CF u1 rb 0 (.slice p1 m1 c1) ∧ CF u1 rb 1 (.slice p2 m2 c2) := by
   refine ⟨⟨?_, ?_⟩, ⟨?_, ?_⟩, ⟨?_, ?_⟩, ⟨?_, ?_⟩, ⟨?_, ?_⟩, ?_, ⟨?_, ?_⟩, ⟨?_, ?_⟩⟩ <;> first | (refine kc hb ?_ <;> (go_simp; first | done | rfl)) | (refine kfz hb ?_ ?_ <;> first | (go_size; done) | (go_simp; done))
 have hz := hb.size
 (try simp only [szA] at hz)
 have L : w.heap.size < u1.heap.size ∧ g < u1.heap.size ∧ rb < u1.heap.size := by omega
 have hB' : Below w.heap.size w u1 := by
   refine kb ?_ hb
   go_grown
 clear hb hz
 obtain ⟨⟨hz_0, fz_0⟩, ⟨hz_1, fz_1⟩, ⟨hz_2, fz_2⟩, ⟨htk_0, htk_1⟩, ⟨htk_2, htk_3⟩, htk_4, ⟨hr_0, fr_0⟩, ⟨hr_1, fr_1⟩⟩ := T
 obtain ⟨hlz, hltk, hlr⟩ := L
 obtain ⟨hnz0, hnz1, hkz1, hnz2, hkz2⟩ := ap0 hlz
 obtain ⟨hntk0, hntk1, hktk1, hntk2, hktk2⟩ := ap0 hltk
 obtain ⟨hnr0, hnr1, hkr1, hnr2, hkr2⟩ := ap0 hlr
 have hB := hB'; clear hB'
 have hsz := hB.size
 (try dsimp only)
 have HB1 := hid hB
 by_cases e0 : e = 0
 ·subst e0
  go_upto_region 9 with fail
  refine wp_pin (fun w' => w'.cell? ⟨w.heap.size, 0, none⟩ = some (.int .i64 0) ∧ w'.frozen? ⟨w.heap.size, 0, none⟩ = false ∧ w'.cell? ⟨w.heap.size, 1, none⟩ = some (.int .i64 0) ∧ w'.frozen? ⟨w.heap.size, 1, none⟩ = false ∧ w'.cell? ⟨w.heap.size, 2, none⟩ = some (.int .i64 0) ∧ w'.frozen? ⟨w.heap.size, 2, none⟩ = false ∧ w'.cell? ⟨g, o, none⟩ = some (.int .i64 1) ∧ w'.cell? ⟨g, o + 1, none⟩ = some (.string ⟨#[115, 101, 99, 114, 101, 116]⟩) ∧ w'.cell? ⟨g, o + 2, none⟩ = some (.int .i64 wn) ∧ w'.cell? ⟨g, o + 3, none⟩ = some (.int .i64 wl) ∧ w'.cell? ⟨g, o + 4, none⟩ = some (.int .i64 wcc) ∧ w'.cell? ⟨rb, 0, none⟩ = some (.slice p1 m1 c1) ∧ w'.frozen? ⟨rb, 0, none⟩ = false ∧ w'.cell? ⟨rb, 1, none⟩ = some (.slice p2 m2 c2) ∧ w'.frozen? ⟨rb, 1, none⟩ = false ∧ w'.cell? ⟨u1.heap.size, 0, none⟩ = some (.int .i64 xf) ∧ w'.frozen? ⟨u1.heap.size, 0, none⟩ = false ∧ w'.cell? ⟨u1.heap.size, 1, none⟩ = some (.int .i64 xt) ∧ w'.frozen? ⟨u1.heap.size, 1, none⟩ = false ∧ w'.cell? ⟨u1.heap.size, 2, none⟩ = some (.int .i64 xb) ∧ w'.frozen? ⟨u1.heap.size, 2, none⟩ = false ∧ w'.cell? ⟨u1.heap.size + 1, 0, none⟩ = some (.int .i64 li) ∧ w'.frozen? ⟨u1.heap.size + 1, 0, none⟩ = false ∧ w'.cell? ⟨u1.heap.size + 1, 1, none⟩ = some (.int .i64 co) ∧ w'.frozen? ⟨u1.heap.size + 1, 1, none⟩ = false ∧ w'.cell? ⟨u1.heap.size + 1, 2, none⟩ = some (.int .i64 0) ∧ w'.frozen? ⟨u1.heap.size + 1, 2, none⟩ = false ∧ Below w.heap.size w w') ?_ ?_
  ·(try dsimp only)
   refine ⟨?_, ?_, ?_, ?_, ?_, ?_, ?_, ?_, ?_, ?_, ?_, ?_, ?_, ?_, ?_, ?_, ?_, ?_, ?_, ?_, ?_, ?_, ?_, ?_, ?_, ?_, ?_, ?_⟩ <;> first | (go_simp; done) | (simp [*]; done) | go_grown
  intro u2 T
  (try dsimp only at T)
  clear hz_0 fz_0 hz_1 fz_1 hz_2 fz_2 htk_0 htk_1 htk_2 htk_3 htk_4 hr_0 fr_0 hr_1 fr_1 hlz hltk hlr hnz0 hnz1 hkz1 hnz2 hkz2 hntk0 hntk1 hktk1 hntk2 hktk2 hnr0 hnr1 hkr1 hnr2 hkr2 hB hsz
  obtain ⟨hz_0, fz_0, hz_1, fz_1, hz_2, fz_2, htk_0, htk_1, htk_2, htk_3, htk_4, hr_0, fr_0, hr_1, fr_1, hx_0, fx_0, hx_1, fx_1, hx_2, fx_2, hww_0, fww_0, hww_1, fww_1, hww_2, fww_2, hB⟩ := T
  have hsz := hB.size
  have hlz := klt hz_0
  have hltk := klt htk_0
  have hlr := klt hr_0
  have hlx := klt hx_0
  have hlww := klt hww_0
  obtain ⟨hnz0, hnz1, hkz1, hnz2, hkz2⟩ := ap0 hlz
  obtain ⟨hntk0, hntk1, hktk1, hntk2, hktk2⟩ := ap0 hltk
  obtain ⟨hnr0, hnr1, hkr1, hnr2, hkr2⟩ := ap0 hlr
  obtain ⟨hnx0, hnx1, hkx1, hnx2, hkx2⟩ := ap0 hlx
  obtain ⟨hnww0, hkww1⟩ := ap1 hlww
  have HB2 := hid hB
  refine wp_region_planD 9 16 (fun W => W.cell? ⟨g, o, none⟩ = some (.int .i64 1) ∧ W.cell? ⟨g, o + 1, none⟩ = some (.string ⟨#[115, 101, 99, 114, 101, 116]⟩) ∧ W.cell? ⟨g, o + 2, none⟩ = some (.int .i64 wn) ∧ W.cell? ⟨g, o + 3, none⟩ = some (.int .i64 wl) ∧ W.cell? ⟨g, o + 4, none⟩ = some (.int .i64 wcc) ∧ W.cell? ⟨rb, 0, none⟩ = some (.slice p1 m1 c1) ∧ W.cell? ⟨rb, 1, none⟩ = some (.slice p2 m2 c2) ∧ W.cell? ⟨u1.heap.size, 0, none⟩ = some (.int .i64 xf) ∧ W.cell? ⟨u1.heap.size, 1, none⟩ = some (.int .i64 xt) ∧ W.cell? ⟨u1.heap.size, 2, none⟩ = some (.int .i64 xb) ∧ Below u2.heap.size u2 W)
   [.val (.slice (some ⟨g, o, none⟩) n cap), .val (.pointer (some ⟨g, o, none⟩)), .val (.agg #[.int .i64 1, .string ⟨#[115, 101, 99, 114, 101, 116]⟩, .int .i64 wn, .int .i64 wl, .int .i64 wcc]), .val (.agg #[.int .i64 xf, .int .i64 xt, .int .i64 xb]), .val (.pointer (some ⟨rb, 0, none⟩)), .val (.pointer (some ⟨rb, 0, none⟩)), .val (.pointer (some ⟨rb, 0, none⟩)), .val (.pointer (some ⟨rb, 0, none⟩)), .val (.slice p1 m1 c1), .val (.pointer (some ⟨rb, 0, none⟩)), .val (.pointer (some ⟨rb, 0, none⟩)), .val (.pointer (some ⟨rb, 0, none⟩)), .val (.pointer (some ⟨rb, 1, none⟩)), .val (.slice p2 m2 c2), .val (.int .i64 A), .val (.agg #[.int .i64 wl, .int .i64 wcc, .int .i64 A])]
   (by kernel_rfl) (by kernel_rfl) (by kernel_rfl) (by kernel_rfl) (by kernel_rfl) (fun W w1 h hb => ⟨kc hb h.1, kc hb h.2.1, kc hb h.2.2.1, kc hb h.2.2.2.1, kc hb h.2.2.2.2.1, kc hb h.2.2.2.2.2.1, kc hb h.2.2.2.2.2.2.1, kc hb h.2.2.2.2.2.2.2.1, kc hb h.2.2.2.2.2.2.2.2.1, kc hb h.2.2.2.2.2.2.2.2.2.1, h.2.2.2.2.2.2.2.2.2.2.trans (hb.mono h.2.2.2.2.2.2.2.2.2.2.size)⟩) ?_ ?_ ?_
  ·intro k hk
   simp only [List.mem_cons, List.not_mem_nil, or_false] at hk
   rcases hk with rfl | rfl | rfl | rfl | rfl | rfl | rfl | rfl | rfl | rfl | rfl | rfl | rfl | rfl | rfl | rfl <;> exact trivial
  ·exact ⟨by go_simp, by go_simp, by go_simp, by go_simp, by go_simp, by go_simp, by go_simp, by go_simp, by go_simp, by go_simp, Below.drew (Below.refl _ _)⟩
  (try simp only [append_eq, cons_append, nil_append, toList_toArray, take_succ_cons, take_zero, drop_succ_cons, drop_zero])
  (iterate 14 (refine PlanR.val ?_ ?_ ?_; (· rfl); (· (intro W hSw; (try dsimp only at hSw); go_simp; all_goals (first | (with_reducible rfl) | (constructor <;> (with_reducible rfl))))); intro _ _; (try simp only [Act.put, setIfInBounds_toArray, set_cons_zero, set_cons_succ])))
  refine PlanR.oval ?_ ?_ ?_
  ·rfl
  ·intro W hSw hKn
   (try dsimp only at hSw)
   have hbW := hSw.2.2.2.2.2.2.2.2.2.2
   have hbw := HB2.out.trans (hbW.mono HB2.out.size)
   go_simp
   refine ⟨rfl, (HAd.out W hbw).mono ?_⟩
   rintro _ u ⟨rfl, hb⟩
   exact ⟨_, rfl, hb, rfl⟩
  intro _ _
  (try simp only [Act.put, setIfInBounds_toArray, set_cons_zero, set_cons_succ])
  refine PlanR.oval ?_ ?_ ?_
  ·rfl
  ·intro W hSw hKn
   (try dsimp only at hSw)
   have hbW := hSw.2.2.2.2.2.2.2.2.2.2
   have hbw := HB2.out.trans (hbW.mono HB2.out.size)
   go_simp
   refine ⟨rfl, (at_u _ _ _ _ _ _ W).mono ?_⟩
   rintro _ u ⟨rfl, hb⟩
   exact ⟨_, rfl, hb, rfl⟩
  intro _ _
  (try simp only [Act.put, setIfInBounds_toArray, set_cons_zero, set_cons_succ])
  refine PlanR.done ?_
  intro u3 G
  have G := G.s
  (try dsimp only at G)
  have hb3 : Below u2.heap.size u2 u3 := G.2.2.2.2.2.2.2.2.2.2
  have hB3 : Below w.heap.size w u3 := HB2.out.trans (hb3.mono HB2.out.size)
  clear G
  (try simp only [List.drop_succ_cons, List.drop_zero])
  have T3 : u3.cell? ⟨w.heap.size, 0, none⟩ = some (.int .i64 0) ∧ u3.frozen? ⟨w.heap.size, 0, none⟩ = false ∧ u3.cell? ⟨w.heap.size, 1, none⟩ = some (.int .i64 0) ∧ u3.frozen? ⟨w.heap.size, 1, none⟩ = false ∧ u3.cell? ⟨w.heap.size, 2, none⟩ = some (.int .i64 0) ∧ u3.frozen? ⟨w.heap.size, 2, none⟩ = false ∧ u3.cell? ⟨g, o, none⟩ = some (.int .i64 1) ∧ u3.cell? ⟨g, o + 1, none⟩ = some (.string ⟨#[115, 101, 99, 114, 101, 116]⟩) ∧ u3.cell? ⟨g, o + 2, none⟩ = some (.int .i64 wn) ∧ u3.cell? ⟨g, o + 3, none⟩ = some (.int .i64 wl) ∧ u3.cell? ⟨g, o + 4, none⟩ = some (.int .i64 wcc) ∧ u3.cell? ⟨rb, 0, none⟩ = some (.slice p1 m1 c1) ∧ u3.frozen? ⟨rb, 0, none⟩ = false ∧ u3.cell? ⟨rb, 1, none⟩ = some (.slice p2 m2 c2) ∧ u3.frozen? ⟨rb, 1, none⟩ = false ∧ u3.cell? ⟨u1.heap.size, 0, none⟩ = some (.int .i64 xf) ∧ u3.frozen? ⟨u1.heap.size, 0, none⟩ = false ∧ u3.cell? ⟨u1.heap.size, 1, none⟩ = some (.int .i64 xt) ∧ u3.frozen? ⟨u1.heap.size, 1, none⟩ = false ∧ u3.cell? ⟨u1.heap.size, 2, none⟩ = some (.int .i64 xb) ∧ u3.frozen? ⟨u1.heap.size, 2, none⟩ = false ∧ u3.cell? ⟨u1.heap.size + 1, 0, none⟩ = some (.int .i64 li) ∧ u3.frozen? ⟨u1.heap.size + 1, 0, none⟩ = false ∧ u3.cell? ⟨u1.heap.size + 1, 1, none⟩ = some (.int .i64 co) ∧ u3.frozen? ⟨u1.heap.size + 1, 1, none⟩ = false ∧ u3.cell? ⟨u1.heap.size + 1, 2, none⟩ = some (.int .i64 0) ∧ u3.frozen? ⟨u1.heap.size + 1, 2, none⟩ = false ∧ Below w.heap.size w u3 := ⟨kc hb3 hz_0, kfz hb3 (klt hz_0) fz_0, kc hb3 hz_1, kfz hb3 (klt hz_1) fz_1, kc hb3 hz_2, kfz hb3 (klt hz_2) fz_2, kc hb3 htk_0, kc hb3 htk_1, kc hb3 htk_2, kc hb3 htk_3, kc hb3 htk_4, kc hb3 hr_0, kfz hb3 (klt hr_0) fr_0, kc hb3 hr_1, kfz hb3 (klt hr_1) fr_1, kc hb3 hx_0, kfz hb3 (klt hx_0) fx_0, kc hb3 hx_1, kfz hb3 (klt hx_1) fx_1, kc hb3 hx_2, kfz hb3 (klt hx_2) fx_2, kc hb3 hww_0, kfz hb3 (klt hww_0) fww_0, kc hb3 hww_1, kfz hb3 (klt hww_1) fww_1, kc hb3 hww_2, kfz hb3 (klt hww_2) fww_2, hB3⟩
  clear hz_0 fz_0 hz_1 fz_1 hz_2 fz_2 htk_0 htk_1 htk_2 htk_3 htk_4 hr_0 fr_0 hr_1 fr_1 hx_0 fx_0 hx_1 fx_1 hx_2 fx_2 hww_0 fww_0 hww_1 fww_1 hww_2 fww_2 hB hsz hlz hltk hlr hlx hlww hnz0 hnz1 hkz1 hnz2 hkz2 hntk0 hntk1 hktk1 hntk2 hktk2 hnr0 hnr1 hkr1 hnr2 hkr2 hnx0 hnx1 hkx1 hnx2 hkx2 hnww0 hkww1
  obtain ⟨hz_0, fz_0, hz_1, fz_1, hz_2, fz_2, htk_0, htk_1, htk_2, htk_3, htk_4, hr_0, fr_0, hr_1, fr_1, hx_0, fx_0, hx_1, fx_1, hx_2, fx_2, hww_0, fww_0, hww_1, fww_1, hww_2, fww_2, hB⟩ := T3
  have hsz := hB.size
  have hlz := klt hz_0
  have hltk := klt htk_0
  have hlr := klt hr_0
  have hlx := klt hx_0
  have hlww := klt hww_0
  obtain ⟨hnz0, hnz1, hkz1, hnz2, hkz2⟩ := ap0 hlz
  obtain ⟨hntk0, hntk1, hktk1, hntk2, hktk2⟩ := ap0 hltk
  obtain ⟨hnr0, hnr1, hkr1, hnr2, hkr2⟩ := ap0 hlr
  obtain ⟨hnx0, hnx1, hkx1, hnx2, hkx2⟩ := ap0 hlx
  obtain ⟨hnww0, hkww1⟩ := ap1 hlww
  have hwu : w.heap.size ≤ u1.heap.size := HB1.out.size
  obtain ⟨qa, qb, qc, qd, qe, qf⟩ : ¬ w.heap.size = u1.heap.size + 1 ∧ ¬ u1.heap.size + 1 = w.heap.size ∧ ¬ g = u1.heap.size + 1 ∧ ¬ u1.heap.size + 1 = g ∧ ¬ rb = u1.heap.size + 1 ∧ ¬ u1.heap.size + 1 = rb := by omega
  have qg : w.heap.size ≤ ({ block := u1.heap.size + 1, off := 0 } : Addr).block := by dsimp only; omega
  have qh : w.heap.size ≤ ({ block := u1.heap.size + 1, off := 1 } : Addr).block := by dsimp only; omega
  have qi : w.heap.size ≤ ({ block := u1.heap.size + 1, off := 2 } : Addr).block := by dsimp only; omega
  go_upto_region 10 with fail
  refine wp_pin (fun w' => w'.cell? ⟨w.heap.size, 0, none⟩ = some (.int .i64 0) ∧ w'.frozen? ⟨w.heap.size, 0, none⟩ = false ∧ w'.cell? ⟨w.heap.size, 1, none⟩ = some (.int .i64 0) ∧ w'.frozen? ⟨w.heap.size, 1, none⟩ = false ∧ w'.cell? ⟨w.heap.size, 2, none⟩ = some (.int .i64 0) ∧ w'.frozen? ⟨w.heap.size, 2, none⟩ = false ∧ w'.cell? ⟨g, o, none⟩ = some (.int .i64 1) ∧ w'.cell? ⟨g, o + 1, none⟩ = some (.string ⟨#[115, 101, 99, 114, 101, 116]⟩) ∧ w'.cell? ⟨g, o + 2, none⟩ = some (.int .i64 wn) ∧ w'.cell? ⟨g, o + 3, none⟩ = some (.int .i64 wl) ∧ w'.cell? ⟨g, o + 4, none⟩ = some (.int .i64 wcc) ∧ w'.cell? ⟨rb, 0, none⟩ = some (.slice p1 m1 c1) ∧ w'.frozen? ⟨rb, 0, none⟩ = false ∧ w'.cell? ⟨rb, 1, none⟩ = some (.slice p2 m2 c2) ∧ w'.frozen? ⟨rb, 1, none⟩ = false ∧ w'.cell? ⟨u1.heap.size, 0, none⟩ = some (.int .i64 xf) ∧ w'.frozen? ⟨u1.heap.size, 0, none⟩ = false ∧ w'.cell? ⟨u1.heap.size, 1, none⟩ = some (.int .i64 xt) ∧ w'.frozen? ⟨u1.heap.size, 1, none⟩ = false ∧ w'.cell? ⟨u1.heap.size, 2, none⟩ = some (.int .i64 xb) ∧ w'.frozen? ⟨u1.heap.size, 2, none⟩ = false ∧ w'.cell? ⟨u1.heap.size + 1, 0, none⟩ = some (.int .i64 wl) ∧ w'.frozen? ⟨u1.heap.size + 1, 0, none⟩ = false ∧ w'.cell? ⟨u1.heap.size + 1, 1, none⟩ = some (.int .i64 wcc) ∧ w'.frozen? ⟨u1.heap.size + 1, 1, none⟩ = false ∧ w'.cell? ⟨u1.heap.size + 1, 2, none⟩ = some (.int .i64 A) ∧ w'.frozen? ⟨u1.heap.size + 1, 2, none⟩ = false ∧ Below w.heap.size w w') ?_ ?_
  ·(try dsimp only)
   refine ⟨?_, ?_, ?_, ?_, ?_, ?_, ?_, ?_, ?_, ?_, ?_, ?_, ?_, ?_, ?_, ?_, ?_, ?_, ?_, ?_, ?_, ?_, ?_, ?_, ?_, ?_, ?_, ?_⟩ <;> first | (go_simp; done) | (simp [*]; done) | go_grown
  intro u4 T
  (try dsimp only at T)
  clear hz_0 fz_0 hz_1 fz_1 hz_2 fz_2 htk_0 htk_1 htk_2 htk_3 htk_4 hr_0 fr_0 hr_1 fr_1 hx_0 fx_0 hx_1 fx_1 hx_2 fx_2 hww_0 fww_0 hww_1 fww_1 hww_2 fww_2 hB hsz hlz hltk hlr hlx hlww hnz0 hnz1 hkz1 hnz2 hkz2 hntk0 hntk1 hktk1 hntk2 hktk2 hnr0 hnr1 hkr1 hnr2 hkr2 hnx0 hnx1 hkx1 hnx2 hkx2 hnww0 hkww1
  obtain ⟨hz_0, fz_0, hz_1, fz_1, hz_2, fz_2, htk_0, htk_1, htk_2, htk_3, htk_4, hr_0, fr_0, hr_1, fr_1, hx_0, fx_0, hx_1, fx_1, hx_2, fx_2, hww_0, fww_0, hww_1, fww_1, hww_2, fww_2, hB⟩ := T
  have hsz := hB.size
  have hlz := klt hz_0
  have hltk := klt htk_0
  have hlr := klt hr_0
  have hlx := klt hx_0
  have hlww := klt hww_0
  obtain ⟨hnz0, hnz1, hkz1, hnz2, hkz2⟩ := ap0 hlz
  obtain ⟨hntk0, hntk1, hktk1, hntk2, hktk2⟩ := ap0 hltk
  obtain ⟨hnr0, hnr1, hkr1, hnr2, hkr2⟩ := ap0 hlr
  obtain ⟨hnx0, hnx1, hkx1, hnx2, hkx2⟩ := ap0 hlx
  obtain ⟨hnww0, hkww1⟩ := ap1 hlww
  have HB4 := hid hB
  have HO := hid (show w.ownsRow S0 53 3 (.slice p1 m1 c1) m1 _ from by have := HR.out.os; rw [HM.out.1] at this; exact this)
  have hr3 : ¬ rb = w.heap.size := by omega
  have hr4 : ¬ w.heap.size = rb := by omega
  have hz4 := HB4.out.size
  have HZ := hid (And.intro hz4 (And.intro hsz0 (And.intro HM.out.1 (And.intro HM.out.2 HLn.out))))
  clear hz4
  go_region_law (refine step_append_own rfl (.tmp 79) (.tmp 81) 27 rfl S0 53 i0 _ 3 24 Tryz.underlying27 hi hz0 hz1 hz2 rfl (by decide) _ m1 _ (by simp [Act.eval, Act.put]) (own_below HO.out (by have := HB4.out; go_grown)) ⟨u4.heap.size, 0, none⟩ 1 1 ([(⟨xf, xt, xb⟩ : Sp)].flatMap Sp.plain) (by simp [Act.eval, Act.put]) rfl (pl_cells_at 53 ⟨xf, xt, xb⟩) (one_cells pl_one _) (by have := HZ.out.2.2; unfold maxLen; omega) (by have := HZ.out.2.2; omega) (by have := HZ.out; simp; omega) ?_; intro v' w' hown' hg _ hat; obtain ⟨p', cp', rfl⟩ := own_form hown'; have tc : w'.cell? ⟨rb, 0, none⟩ = some (.slice p1 m1 c1) := grown_cell (own_below HO.out (by have := HB4.out; go_grown)) hg hlt (by go_simp); have tf : w'.frozen? ⟨rb, 0, none⟩ = false := grown_frozen (own_below HO.out (by have := HB4.out; go_grown)) hg hlt (by simp; omega) (by go_simp); have tz_0 : w'.cell? ⟨w.heap.size, 0, none⟩ = some (.int .i64 0) := grown_far HO.out hg (by first | exact Nat.le_refl _ | omega) (by go_simp); have tfz_0 : w'.frozen? ⟨w.heap.size, 0, none⟩ = false := grown_farf HO.out hg (by first | exact Nat.le_refl _ | omega) (by first | (simp; done) | (simp; omega)) (by go_simp); have tz_1 : w'.cell? ⟨w.heap.size, 1, none⟩ = some (.int .i64 0) := grown_far HO.out hg (by first | exact Nat.le_refl _ | omega) (by go_simp); have tfz_1 : w'.frozen? ⟨w.heap.size, 1, none⟩ = false := grown_farf HO.out hg (by first | exact Nat.le_refl _ | omega) (by first | (simp; done) | (simp; omega)) (by go_simp); have tz_2 : w'.cell? ⟨w.heap.size, 2, none⟩ = some (.int .i64 0) := grown_far HO.out hg (by first | exact Nat.le_refl _ | omega) (by go_simp); have tfz_2 : w'.frozen? ⟨w.heap.size, 2, none⟩ = false := grown_farf HO.out hg (by first | exact Nat.le_refl _ | omega) (by first | (simp; done) | (simp; omega)) (by go_simp); have tww_0 : w'.cell? ⟨u1.heap.size + 1, 0, none⟩ = some (.int .i64 wl) := grown_far HO.out hg (by first | exact Nat.le_refl _ | omega) (by go_simp); have tww_1 : w'.cell? ⟨u1.heap.size + 1, 1, none⟩ = some (.int .i64 wcc) := grown_far HO.out hg (by first | exact Nat.le_refl _ | omega) (by go_simp); have tww_2 : w'.cell? ⟨u1.heap.size + 1, 2, none⟩ = some (.int .i64 A) := grown_far HO.out hg (by first | exact Nat.le_refl _ | omega) (by go_simp); have HG := hid (And.intro hown' (And.intro hg hat)); clear hown' hg hat)
  all_goals
   have HF := hid (show (∃ vs' vk', Rq rb S0 (w'.setCell ⟨rb, 0, none⟩ (.slice p' (m1 + 1) cp')) (sp ++ [⟨⟨xf, xt, xb⟩, false⟩]) vs' vk' dn db tn tb ∧ ∀ b, w.heap.size ≤ b → b < _ → vs'.ownBlock ≠ some b ∧ vk'.ownBlock ≠ some b) ∧ Kp rb S0 w (w'.setCell ⟨rb, 0, none⟩ (.slice p' (m1 + 1) cp')) from
    Rq.app HR.out (by have := HB4.out; go_grown) ⟨xf, xt, xb⟩ false HG.out.2.1 (by rw [HM.out.1]; exact HG.out.1) HG.out.2.2)
   go_wp2_with fail
   refine bodyPost_ret (v := .agg #[.int .i64 wl, .int .i64 wcc, .int .i64 A]) (by simp [results, Tryz.results40, go_sem, tz_0, tz_1, tz_2, tww_0, tww_1, tww_2] <;> first | done | rfl) rfl ?_
   by_cases hA0 : A = 0
   ·subst hA0
    obtain ⟨⟨vs', vk', hRq, hap⟩, hkp⟩ := HF.out
    have hap := hap w.heap.size (Nat.le_refl _) (by have := HZ.out; simp; omega)
    exact lnR_ok (HE4.out (by first | trivial | rfl) (by first | trivial | rfl)) (by (repeat (refine Kp.setn ?_ hlt (by exact hsz0) _)); exact hkp) (by (repeat (refine Rq.setn ?_ (by show rb ≠ w.heap.size; omega) (by exact hap.1) (by exact hap.2) _)); exact hRq)
   ·obtain ⟨e1, e2, e3⟩ := HE3.out (by first | trivial | rfl) hA0
    exact lnR_err e1 e2 e3 hA0 (by (repeat (refine Kp.setn ?_ hlt (by exact hsz0) _)); exact HF.out.2)
 ·have e1 : (e == 0) = false := by simpa using e0
  have e2 : (e != 0) = true := by simp [bne, e1]
  obtain ⟨f1, f2, f3⟩ := HE2.out e0
  go_upto_region 7 with fail
  refine wp_pin (fun w' => w'.cell? ⟨w.heap.size, 0, none⟩ = some (.int .i64 0) ∧ w'.frozen? ⟨w.heap.size, 0, none⟩ = false ∧ w'.cell? ⟨w.heap.size, 1, none⟩ = some (.int .i64 0) ∧ w'.frozen? ⟨w.heap.size, 1, none⟩ = false ∧ w'.cell? ⟨w.heap.size, 2, none⟩ = some (.int .i64 0) ∧ w'.frozen? ⟨w.heap.size, 2, none⟩ = false ∧ w'.cell? ⟨u1.heap.size + 1, 0, none⟩ = some (.int .i64 li) ∧ w'.frozen? ⟨u1.heap.size + 1, 0, none⟩ = false ∧ w'.cell? ⟨u1.heap.size + 1, 1, none⟩ = some (.int .i64 co) ∧ w'.frozen? ⟨u1.heap.size + 1, 1, none⟩ = false ∧ w'.cell? ⟨u1.heap.size + 1, 2, none⟩ = some (.int .i64 e) ∧ w'.frozen? ⟨u1.heap.size + 1, 2, none⟩ = false ∧ Below w.heap.size w w') ?_ ?_
  ·(try dsimp only)
   refine ⟨?_, ?_, ?_, ?_, ?_, ?_, ?_, ?_, ?_, ?_, ?_, ?_, ?_⟩ <;> first | (go_simp; done) | (simp [*]; done) | go_grown
  intro u5 T
  (try dsimp only at T)
  clear hz_0 fz_0 hz_1 fz_1 hz_2 fz_2 htk_0 htk_1 htk_2 htk_3 htk_4 hr_0 fr_0 hr_1 fr_1 hlz hltk hlr hnz0 hnz1 hkz1 hnz2 hkz2 hntk0 hntk1 hktk1 hntk2 hktk2 hnr0 hnr1 hkr1 hnr2 hkr2 hB hsz
  obtain ⟨hz_0, fz_0, hz_1, fz_1, hz_2, fz_2, hww_0, fww_0, hww_1, fww_1, hww_2, fww_2, hB⟩ := T
  have hsz := hB.size
  have hlz := klt hz_0
  have hlww := klt hww_0
  obtain ⟨hnz0, hnz1, hkz1, hnz2, hkz2⟩ := ap0 hlz
  obtain ⟨hnww0, hnww1, hkww1, hnww2, hkww2⟩ := ap1f hlww
  go_wp2_with fail
  refine bodyPost_ret (v := .agg #[.int .i64 li, .int .i64 co, .int .i64 e]) (by simp [results, Tryz.results40, go_sem, hz_0, hz_1, hz_2] <;> first | done | rfl) rfl (lnR_err f1 f2 f3 e0 (Kp.of_below (by go_grown) hlt hsz0))
end Go.Proofs.YtjcmblbnbpikfaaGreatDoor
