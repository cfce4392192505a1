/- Layer 7: kinds of what the -/
import Derived.Test.YtjcmblbnbpikfaaGreatDoorPlanR
import Derived.Test.YtjcmblbnbpikfaaGreatDoorPol
import Derived.Test.YtjcmblbnbpikfaaGreatDoorTake
import Derived.Test.YtjcmblbnbpikfaaGreatDoorOfp
set_option linter.unusedSimpArgs false
set_option linter.unusedVariables false
namespace Go.Proofs.YtjcmblbnbpikfaaGreatDoor
open Lib (hid)
open List (setIfInBounds_toArray set_cons_zero set_cons_succ append_eq cons_append nil_append toList_toArray take_succ_cons take_zero drop_succ_cons drop_zero)
open Go.RowKit Go.PlainAid

def kSl (l : List Sp) (n : Nat) : KdR := .any (.slice none n 0) (fun v => ∃ p c, v = .slice p n c) (fun x w => HoldsS w x.v l ∧ l.length = n ∧ ∀ g, x.v.ownBlock = some g → x.lo ≤ g ∧ (l ≠ [] → g < x.hi))
theorem kSl_fine (l : List Sp) (n : Nat) : (kSl l n).Fine :=
 ⟨⟨none, 0, rfl⟩, fun x W w1 h hb => ⟨h.1.below hb, h.2⟩, fun x w h => by obtain ⟨p, c, e⟩ := h.1.form; exact ⟨p, c, by rw [e, h.2.1]⟩⟩
theorem holds_lt {α : Type} {enc : α → List Value} {k : Nat} (hk : ∀ x, (enc x).length = k) (hk0 : 0 < k) {w : World} {v : Value} {l : List α} (h : HoldsE enc k w v l) (hl : l ≠ []) : ∀ g, v.ownBlock = some g → g < w.heap.size := by
 intro g hg
 rcases h with ⟨_, h⟩ | ⟨g', o, cap, rfl, hc, h⟩
 ·exact absurd h hl
 ·cases hg
  cases l with
  | nil => exact absurd rfl hl
  | cons x r =>
   have hx : 0 < (enc x).length := by rw [hk]; exact hk0
   exact klt (h 0 x rfl 0 _ (List.getElem?_eq_getElem hx))
theorem kSl_of {l : List Sp} {n : Nat} (hn : l.length = n) {w w' : World} {v : Value} (hs : HoldsS w' v l) (hg : ∀ g, v.ownBlock = some g → w.heap.size ≤ g) : HoldsS w' v l ∧ l.length = n ∧ ∀ g, v.ownBlock = some g → w.heap.size ≤ g ∧ (l ≠ [] → g < w'.heap.size) :=
 ⟨hs, hn, fun g h => ⟨hg g h, fun hl => holds_lt sp_len (by decide) hs hl g h⟩⟩
def kPt (zs : List Value) : KdR := .any (.pointer (some ⟨0, 0, none⟩)) (fun v => ∃ b, v = .pointer (some ⟨b, 0, none⟩)) (fun x w => x.v = .pointer (some ⟨x.lo, 0, none⟩) ∧ x.lo < x.hi ∧ x.hi ≤ w.heap.size ∧ ∀ o v, zs[o]? = some v → w.cell? ⟨x.lo, o, none⟩ = some v ∧ w.frozen? ⟨x.lo, o, none⟩ = false)
theorem kPt_fine (zs : List Value) : (kPt zs).Fine :=
 ⟨⟨0, rfl⟩, fun x W w1 h hb => ⟨h.1, h.2.1, Nat.le_trans h.2.2.1 hb.size, fun o v hv => ⟨kc hb (h.2.2.2 o v hv).1, kfz hb (by have := h.2.1; have := h.2.2.1; omega) (h.2.2.2 o v hv).2⟩⟩, fun x w h => ⟨_, h.1⟩⟩
theorem kPt_of (zs : Array Value) (T : TypeId) (w : World) : ∀ o v, zs.toList[o]? = some v → (w.alloc (.cells zs T)).cell? ⟨w.heap.size, o, none⟩ = some v ∧ (w.alloc (.cells zs T)).frozen? ⟨w.heap.size, o, none⟩ = false := by
 intro o v h
 have hh := heap_alloc_new w (.cells zs T)
 refine ⟨?_, by simp only [World.frozen?, hh]; simp⟩
 simp only [World.cell?, hh]
 rw [Array.getElem?_toList] at h
 exact h
theorem holdsE_set2 {α : Type} {enc : α → List Value} {k : Nat} {w : World} {v : Value} {l : List α} (h : HoldsE enc k w v l) {p : Addr} (hp : l ≠ [] → ∀ g, v.ownBlock = some g → g ≠ p.block) (u : Value) : HoldsE enc k (w.setCell p u) v l := by
 rcases h with h | ⟨g, o, cap, e, hc, h⟩
 ·exact .inl h
 ·refine .inr ⟨g, o, cap, e, hc, fun j x hx i y hy => ?_⟩
  have hl : l ≠ [] := fun e => by rw [e] at hx; cases hx
  have hg := hp hl g (by rw [e]; rfl)
  rw [World.cell?_setCell_other _ _ _ _ (by intro e2; subst e2; dsimp only at hg; omega)]
  exact h j x hx i y hy
def polM (sp : List Mk) (dn : Int) (tb : Bool) (tn : Int) : Pol := ⟨ofM false sp, ofM true sp, dn, if tb = true then tn else 1024⟩
set_option maxRecDepth 100000 in
set_option maxHeartbeats 8000000 in
theorem policy_c (s : St) (hsp : s.sp.length ≤ 64) (rb S0 : Nat) (w : World) (hr : Rd rb S0 w s) :
  Calls Tryz.prog 38 #[.pointer (some ⟨rb, 0, none⟩)] w (AnsP w (sortP (polM s.sp s.dn s.tb s.tn))) := by
 obtain ⟨sl, ssp, sv, sdn, sdb, stn, stb⟩ := s
 dsimp only at hsp ⊢
 have hlt := hr.lt
 have hsz0 := hr.sz
 have hkr : rb < w.heap.size := by omega
 have hrw : ¬ rb = w.heap.size := by omega
 have hr1 := hr.row.1
 have hr2 := hr.c2
 have hr4 := hr.c4
 have hr5 := hr.c5
 dsimp only at hr1 hr2 hr4 hr5
 have HV := HoldsE.own mk_len hr.row.2
 obtain ⟨a1, c1, hform⟩ := HV.form
 dsimp only at hform HV
 subst hform
 have hl1 := ofM_len false ssp
 have hl2 := ofM_len true ssp
 have HO1 := hid (fun W (hb : Below w.heap.size w W) => of_c false ssp (by omega) _ W (HV.below hb))
 have HO2 := hid (fun W (hb : Below w.heap.size w W) => of_c true ssp (by omega) _ W (HV.below hb))
 unfold AnsS at HO1 HO2
 have HS := hid (fun (p : Pol) (v : Value) (W : World) (hp : p.s.length ≤ 100000 ∧ p.k.length ≤ 100000) (hv : HoldsP W v p) => sorted_c p hp v W hv)
 unfold AnsP sortP at HS
 dsimp only at HS
 generalize hL1 : ofM false ssp = L1 at *
 generalize hL2 : ofM true ssp = L2 at *
 obtain ⟨m1, hm1⟩ : ∃ m, L1.length = m := ⟨_, rfl⟩
 obtain ⟨m2, hm2⟩ : ∃ m, L2.length = m := ⟨_, rfl⟩
 have HM := hid (show L1.length = m1 ∧ L2.length = m2 ∧ m1 ≤ 64 ∧ m2 ≤ 64 by omega)
 have HPL := hid (show polM ssp sdn stb stn = ⟨L1, L2, sdn, if stb = true then stn else 1024⟩ by unfold polM; rw [hL1, hL2])
 generalize ssp.length = n at *
 clear HV hr hL1 hL2 hl1 hl2 hm1 hm2
 go_enter Tryz.func38, Tryz.ntmps38
 go_wp2_with fail
 refine wp_region_planR 17 (fun W => W.cell? ⟨rb, 1, none⟩ = some (.slice a1 n c1) ∧ W.cell? ⟨rb, 2, none⟩ = some (.int .i64 sdn) ∧ Below (w.alloc (.cells #[.slice none 0 0, .slice none 0 0, .int .i64 0, .int .i64 0] 24)).heap.size (w.alloc (.cells #[.slice none 0 0, .slice none 0 0, .int .i64 0, .int .i64 0] 24)) W)
  [.val (.pointer (some ⟨rb, 0, none⟩)), .val (.pointer (some ⟨rb, 0, none⟩)), .val (.pointer (some ⟨rb, 1, none⟩)), .val (.slice a1 n c1), kSl L1 m1, .val (.pointer (some ⟨rb, 0, none⟩)), .val (.pointer (some ⟨rb, 0, none⟩)), .val (.pointer (some ⟨rb, 1, none⟩)), .val (.slice a1 n c1), kSl L2 m2,
   .val (.pointer (some ⟨rb, 0, none⟩)), .val (.pointer (some ⟨rb, 0, none⟩)), .val (.pointer (some ⟨rb, 2, none⟩)), .val (.pointer (some ⟨rb, 2, none⟩)), .val (.int .i64 sdn), .fn [4, 9] (fun l => .agg #[l.getD 0 undef, l.getD 1 undef, .int .i64 sdn, .int .i64 1024]), kPt [.slice none 0 0, .slice none 0 0, .int .i64 0, .int .i64 0]]
  (by kernel_rfl) (by kernel_rfl) (by kernel_rfl) (by kernel_rfl) (by kernel_rfl) (fun W w1 h hb => ⟨kc hb h.1, kc hb h.2.1, h.2.2.trans (hb.mono h.2.2.size)⟩) ?_ ?_ ?_
 ·intro k hk
  simp only [List.mem_cons, List.not_mem_nil, or_false] at hk
  rcases hk with rfl | rfl | rfl | rfl | rfl | rfl | rfl | rfl | rfl | rfl | rfl | rfl | rfl | rfl | rfl | rfl | rfl <;> first | exact trivial | exact kSl_fine _ _ | exact kPt_fine _
 ·exact ⟨by go_simp, by go_simp, Below.drew (Below.refl _ _)⟩
 (try simp only [append_eq, cons_append, nil_append, toList_toArray, take_succ_cons, take_zero, drop_succ_cons, drop_zero])
 (iterate 4 (refine PlanR.val ?_ ?_ ?_; (· rfl); (· (intro W hSw; (try dsimp only at hSw); go_simp; all_goals (first | (with_reducible rfl) | (constructor <;> (with_reducible rfl))))); intro _ _; (try simp only [Act.put, setIfInBounds_toArray, set_cons_zero, set_cons_succ])))
 refine PlanR.any ?_ ?_ ?_
 ·rfl
 ·intro W hSw _
  (try dsimp only at hSw)
  go_simp
  refine ⟨rfl, (HO1.out W (((Below.refl _ w).alloc (Nat.le_refl _) _).trans (hSw.2.2.mono (by simp)))).mono ?_⟩
  rintro _ u ⟨v, rfl, hv, hg, hb⟩
  exact ⟨v, rfl, hb, kSl_of HM.out.1 hv hg⟩
 rintro ⟨_, lo1, hi1⟩ ⟨p1, cp1, rfl⟩
 (try simp only [Act.put, setIfInBounds_toArray, set_cons_zero, set_cons_succ])
 (iterate 4 (refine PlanR.val ?_ ?_ ?_; (· rfl); (· (intro W hSw; (try dsimp only at hSw); go_simp; all_goals (first | (with_reducible rfl) | (constructor <;> (with_reducible rfl))))); intro _ _; (try simp only [Act.put, setIfInBounds_toArray, set_cons_zero, set_cons_succ])))
 refine PlanR.any ?_ ?_ ?_
 ·rfl
 ·intro W hSw _
  (try dsimp only at hSw)
  go_simp
  refine ⟨rfl, (HO2.out W (((Below.refl _ w).alloc (Nat.le_refl _) _).trans (hSw.2.2.mono (by simp)))).mono ?_⟩
  rintro _ u ⟨v, rfl, hv, hg, hb⟩
  exact ⟨v, rfl, hb, kSl_of HM.out.2.1 hv hg⟩
 rintro ⟨_, lo2, hi2⟩ ⟨p2, cp2, rfl⟩
 (try simp only [Act.put, setIfInBounds_toArray, set_cons_zero, set_cons_succ])
 (iterate 5 (refine PlanR.val ?_ ?_ ?_; (· rfl); (· (intro W hSw; (try dsimp only at hSw); go_simp; all_goals (first | (with_reducible rfl) | (constructor <;> (with_reducible rfl))))); intro _ _; (try simp only [Act.put, setIfInBounds_toArray, set_cons_zero, set_cons_succ])))
 refine PlanR.fn (v := ?_) ?_ ?_ ?_ ?_
 rotate_left 3
 ·(intro W hSw; (try dsimp only at hSw); go_simp; all_goals (first | (with_reducible rfl) | (constructor <;> (with_reducible rfl))))
 rotate_left 1
 ·rfl
 ·rfl
 intro _ _
 (try simp only [Act.put, setIfInBounds_toArray, set_cons_zero, set_cons_succ])
 refine PlanR.any ?_ ?_ ?_
 ·rfl
 ·intro W hSw _
  show OneR _ _ _ (Result.ok (Next.value (Value.pointer (some ⟨W.heap.size, 0, none⟩))) (W.alloc (.cells #[.slice none 0 0, .slice none 0 0, .int .i64 0, .int .i64 0] 24)))
  exact ⟨(Below.refl _ _).alloc (Nat.le_refl _) _, rfl, by simp, by simp, kPt_of _ _ _⟩
 rintro ⟨_, B, hiB⟩ ⟨b, rfl⟩
 (try simp only [Act.put, setIfInBounds_toArray, set_cons_zero, set_cons_succ])
 refine PlanR.done ?_
 intro u G
 have h1 : HoldsS u (.slice p1 m1 cp1) L1 ∧ L1.length = m1 ∧ ∀ g, (Value.slice p1 m1 cp1).ownBlock = some g → lo1 ≤ g ∧ (L1 ≠ [] → g < hi1) := (G.each 4 (by decide) rfl).1
 have h2 : HoldsS u (.slice p2 m2 cp2) L2 ∧ L2.length = m2 ∧ ∀ g, (Value.slice p2 m2 cp2).ownBlock = some g → lo2 ≤ g ∧ (L2 ≠ [] → g < hi2) := (G.each 9 (by decide) rfl).1
 have hP : Value.pointer (some ⟨b, 0, none⟩) = .pointer (some ⟨B, 0, none⟩) ∧ B < hiB ∧ hiB ≤ u.heap.size ∧ ∀ o v, [.slice none 0 0, .slice none 0 0, .int .i64 0, .int .i64 0][o]? = some v → u.cell? ⟨B, o, none⟩ = some v ∧ u.frozen? ⟨B, o, none⟩ = false := (G.each 16 (by decide) rfl).1
 have hB0 : (w.alloc (.cells #[.slice none 0 0, .slice none 0 0, .int .i64 0, .int .i64 0] 24)).heap.size ≤ B := (G.each 16 (by decide) rfl).2.1
 have ap1 : hi1 ≤ B ∨ hiB ≤ lo1 := G.apart 4 16 (by decide) (by decide) rfl rfl (by decide)
 have ap2 : hi2 ≤ B ∨ hiB ≤ lo2 := G.apart 9 16 (by decide) (by decide) rfl rfl (by decide)
 have hBw : Below (w.alloc (.cells #[.slice none 0 0, .slice none 0 0, .int .i64 0, .int .i64 0] 24)).heap.size (w.alloc (.cells #[.slice none 0 0, .slice none 0 0, .int .i64 0, .int .i64 0] 24)) u := G.s.2.2
 have hBu : Below w.heap.size w u := ((Below.refl _ w).alloc (Nat.le_refl _) _).trans (hBw.mono (by simp))
 have hk_0 : u.cell? ⟨w.heap.size, 0, none⟩ = some (.slice none 0 0) := kc hBw (by go_simp)
 have hk_1 : u.cell? ⟨w.heap.size, 1, none⟩ = some (.slice none 0 0) := kc hBw (by go_simp)
 have hk_2 : u.cell? ⟨w.heap.size, 2, none⟩ = some (.int .i64 0) := kc hBw (by go_simp)
 have hk_3 : u.cell? ⟨w.heap.size, 3, none⟩ = some (.int .i64 0) := kc hBw (by go_simp)
 have fk_0 : u.frozen? ⟨w.heap.size, 0, none⟩ = false := kfz hBw (by simp) (by go_simp)
 have fk_1 : u.frozen? ⟨w.heap.size, 1, none⟩ = false := kfz hBw (by simp) (by go_simp)
 have fk_2 : u.frozen? ⟨w.heap.size, 2, none⟩ = false := kfz hBw (by simp) (by go_simp)
 have fk_3 : u.frozen? ⟨w.heap.size, 3, none⟩ = false := kfz hBw (by simp) (by go_simp)
 have hszu := hBw.size
 rw [World.size_alloc] at hszu
 rw [World.size_alloc] at hB0
 obtain ⟨eb, hb1, hb2, hbc⟩ := hP
 cases eb
 obtain ⟨hb_0, fb_0⟩ := hbc 0 _ rfl
 obtain ⟨hb_1, fb_1⟩ := hbc 1 _ rfl
 obtain ⟨hb_2, fb_2⟩ := hbc 2 _ rfl
 obtain ⟨hb_3, fb_3⟩ := hbc 3 _ rfl
 have H1 := hid (show HoldsS u (.slice p1 m1 cp1) L1 ∧ (L1 ≠ [] → ∀ g, (Value.slice p1 m1 cp1).ownBlock = some g → g ≠ B) from ⟨h1.1, fun hl g hg => by have := h1.2.2 g hg; have := this.2 hl; omega⟩)
 have H2 := hid (show HoldsS u (.slice p2 m2 cp2) L2 ∧ (L2 ≠ [] → ∀ g, (Value.slice p2 m2 cp2).ownBlock = some g → g ≠ B) from ⟨h2.1, fun hl g hg => by have := h2.2.2 g hg; have := this.2 hl; omega⟩)
 clear h1 h2 hbc ap1 ap2 G
 have hk4 := kc hBu hr4
 have hk5 := kc hBu hr5
 clear hr1 hr2 hr4 hr5
 have hrb : ¬ rb = B := by omega
 refine wpList_plain rfl fun K hK => ?_
 go_simp
 refine hK _ _ ?_
 clear hK K
 have hkB : ¬ w.heap.size = B := by omega
 have hkB' : ¬ B = w.heap.size := by omega
 have hlB : B < u.heap.size := by omega
 go_upto_region 2 with fail
 have h1f : HoldsS ((((u.setCell ⟨B, 0, none⟩ (.slice p1 m1 cp1)).setCell ⟨B, 1, none⟩ (.slice p2 m2 cp2)).setCell ⟨B, 2, none⟩ (.int .i64 sdn)).setCell ⟨B, 3, none⟩ (.int .i64 1024)) (.slice p1 m1 cp1) L1 := by (repeat (refine holdsE_set2 ?_ H1.out.2 _)); exact H1.out.1
 have h2f : HoldsS ((((u.setCell ⟨B, 0, none⟩ (.slice p1 m1 cp1)).setCell ⟨B, 1, none⟩ (.slice p2 m2 cp2)).setCell ⟨B, 2, none⟩ (.int .i64 sdn)).setCell ⟨B, 3, none⟩ (.int .i64 1024)) (.slice p2 m2 cp2) L2 := by (repeat (refine holdsE_set2 ?_ H2.out.2 _)); exact H2.out.1
 refine wp_pin (fun W => W.cell? ⟨B, 0, none⟩ = some (.slice p1 m1 cp1) ∧ W.cell? ⟨B, 1, none⟩ = some (.slice p2 m2 cp2) ∧ W.cell? ⟨B, 2, none⟩ = some (.int .i64 sdn) ∧ W.cell? ⟨B, 3, none⟩ = some (.int .i64 1024) ∧ W.cell? ⟨w.heap.size, 0, none⟩ = some (.slice none 0 0) ∧ W.cell? ⟨w.heap.size, 1, none⟩ = some (.slice none 0 0) ∧ W.cell? ⟨w.heap.size, 2, none⟩ = some (.int .i64 0) ∧ W.cell? ⟨w.heap.size, 3, none⟩ = some (.int .i64 0) ∧ W.cell? ⟨rb, 4, none⟩ = some (.int .i64 stn) ∧ W.cell? ⟨rb, 5, none⟩ = some (.bool stb) ∧ W.frozen? ⟨B, 3, none⟩ = false ∧ W.frozen? ⟨w.heap.size, 0, none⟩ = false ∧ W.frozen? ⟨w.heap.size, 1, none⟩ = false ∧ W.frozen? ⟨w.heap.size, 2, none⟩ = false ∧ W.frozen? ⟨w.heap.size, 3, none⟩ = false ∧ B < W.heap.size ∧ Below w.heap.size w W ∧ HoldsS W (.slice p1 m1 cp1) L1 ∧ HoldsS W (.slice p2 m2 cp2) L2) ⟨by go_simp, by go_simp, by go_simp, by go_simp, by go_simp, by go_simp, by go_simp, by go_simp, by go_simp, by go_simp, by go_simp, by go_simp, by go_simp, by go_simp, by go_simp, by simp only [World.size_setCell]; exact hlB, ((((hBu.setCell (by dsimp only; omega) _).setCell (by dsimp only; omega) _).setCell (by dsimp only; omega) _).setCell (by dsimp only; omega) _), h1f, h2f⟩ ?_
 clear h1f h2f hBu hBw hszu hlB hb_0 hb_1 hb_2 hb_3 hk_0 hk_1 hk_2 hk_3 hk4 hk5 fb_3 fk_0 fk_1 fk_2 fk_3
 rintro z ⟨hb_0, hb_1, hb_2, hb_3, hk_0, hk_1, hk_2, hk_3, hk4, hk5, fb_3, fk_0, fk_1, fk_2, fk_3, hlB, hBu, h1f, h2f⟩
 replace H1 := hid (And.intro h1f H1.out.2)
 replace H2 := hid (And.intro h2f H2.out.2)
 clear h1f h2f
 have hsz := hBu.size
 cases stb
 ·go_wp2_with fail
  have h1f : HoldsS z (.slice p1 m1 cp1) L1 := by (repeat (refine holdsE_set2 ?_ H1.out.2 _)); exact H1.out.1
  have h2f : HoldsS z (.slice p2 m2 cp2) L2 := by (repeat (refine holdsE_set2 ?_ H2.out.2 _)); exact H2.out.1
  have hBf : Below w.heap.size w z := hBu
  have hpf : HoldsP z (.agg #[.slice p1 m1 cp1, .slice p2 m2 cp2, .int .i64 sdn, .int .i64 1024]) ⟨L1, L2, sdn, 1024⟩ := ⟨_, _, rfl, h1f, h2f⟩
  ((with_reducible refine (HS.out ⟨L1, L2, sdn, 1024⟩ _ _ ⟨by have := HM.out; dsimp only; omega, by have := HM.out; dsimp only; omega⟩ hpf).mono ?_); rintro _ y ⟨x1, x2, rfl, hx1, hx2, hy1, hy2, hb⟩)
  have hs_y := hid hb
  have T : CF y w.heap.size 0 (.slice none 0 0) ∧ CF y w.heap.size 1 (.slice none 0 0) ∧ CF y w.heap.size 2 (.int .i64 0) ∧ CF y w.heap.size 3 (.int .i64 0) := by
    refine ⟨⟨?_, ?_⟩, ⟨?_, ?_⟩, ⟨?_, ?_⟩, ⟨?_, ?_⟩⟩ <;> first | (refine kc hb ?_ <;> (go_simp; first | done | rfl)) | (refine kfz hb ?_ ?_ <;> first | (go_size; done) | (go_simp; done))
  have hz := hb.size
  (try simp only [szA] at hz)
  have L : w.heap.size < y.heap.size := by omega
  have hB' : Below w.heap.size w y := by
    refine kb ?_ hb
    go_grown
  clear hb hz
  obtain ⟨⟨hk_0, fk_0⟩, ⟨hk_1, fk_1⟩, ⟨hk_2, fk_2⟩, ⟨hk_3, fk_3⟩⟩ := T
  have hlk := L; clear L
  obtain ⟨hnk0, hnk1, hkk1, hnk2, hkk2⟩ := ap0 hlk
  have hB := hB'; clear hB'
  have hsz := hB.size
  obtain ⟨p3, cp3, rfl⟩ := hx1.form
  obtain ⟨p4, cp4, rfl⟩ := hx2.form
  have hyz : w.heap.size + 1 ≤ z.heap.size := by (try simp only [World.size_setCell]); omega
  have HX := hid (show HoldsS y _ _ ∧ HoldsS y _ _ ∧ (∀ g, _ → w.heap.size + 1 ≤ g) ∧ (∀ g, _ → w.heap.size + 1 ≤ g) from ⟨hx1, hx2, fun g h => Nat.le_trans hyz (hy1 g h), fun g h => Nat.le_trans hyz (hy2 g h)⟩)
  generalize hm3 : (sortS L1).length = m3 at *
  generalize hm4 : (sortS L2).length = m4 at *
  clear hx1 hx2 hy1 hy2 h1f h2f hBf hpf hyz hm3 hm4
  go_wp2
  refine bodyPost_ret (v := .agg #[.slice p3 m3 cp3, .slice p4 m4 cp4, .int .i64 sdn, .int .i64 1024]) (by simp [results, Tryz.results38, go_sem, hk_0, hk_1, hk_2, hk_3] <;> first | done | rfl) rfl ⟨_, _, by rw [HPL.out]; rfl, ?_, ?_, (fun g h => Nat.le_of_succ_le (HX.out.2.2.1 g h)), (fun g h => Nat.le_of_succ_le (HX.out.2.2.2 g h)), by go_grown⟩
  ·rw [HPL.out]
   (repeat (refine holdsE_set (B := w.heap.size + 1) ?_ HX.out.2.2.1 (by simp) _))
   exact HX.out.1
  ·rw [HPL.out]
   (repeat (refine holdsE_set (B := w.heap.size + 1) ?_ HX.out.2.2.2 (by simp) _))
   exact HX.out.2.1
 ·go_wp2_with fail
  have h1f : HoldsS (z.setCell ⟨B, 3, none⟩ (.int .i64 stn)) (.slice p1 m1 cp1) L1 := by (repeat (refine holdsE_set2 ?_ H1.out.2 _)); exact H1.out.1
  have h2f : HoldsS (z.setCell ⟨B, 3, none⟩ (.int .i64 stn)) (.slice p2 m2 cp2) L2 := by (repeat (refine holdsE_set2 ?_ H2.out.2 _)); exact H2.out.1
  have hBf : Below w.heap.size w (z.setCell ⟨B, 3, none⟩ (.int .i64 stn)) := hBu.setCell (by dsimp only; omega) _
  have hpf : HoldsP (z.setCell ⟨B, 3, none⟩ (.int .i64 stn)) (.agg #[.slice p1 m1 cp1, .slice p2 m2 cp2, .int .i64 sdn, .int .i64 stn]) ⟨L1, L2, sdn, stn⟩ := ⟨_, _, rfl, h1f, h2f⟩
  ((with_reducible refine (HS.out ⟨L1, L2, sdn, stn⟩ _ _ ⟨by have := HM.out; dsimp only; omega, by have := HM.out; dsimp only; omega⟩ hpf).mono ?_); rintro _ y ⟨x1, x2, rfl, hx1, hx2, hy1, hy2, hb⟩)
  have hs_y := hid hb
  have T : CF y w.heap.size 0 (.slice none 0 0) ∧ CF y w.heap.size 1 (.slice none 0 0) ∧ CF y w.heap.size 2 (.int .i64 0) ∧ CF y w.heap.size 3 (.int .i64 0) := by
    refine ⟨⟨?_, ?_⟩, ⟨?_, ?_⟩, ⟨?_, ?_⟩, ⟨?_, ?_⟩⟩ <;> first | (refine kc hb ?_ <;> (go_simp; first | done | rfl)) | (refine kfz hb ?_ ?_ <;> first | (go_size; done) | (go_simp; done))
  have hz := hb.size
  (try simp only [szA] at hz)
  have L : w.heap.size < y.heap.size := by omega
  have hB' : Below w.heap.size w y := by
    refine kb ?_ hb
    go_grown
  clear hb hz
  obtain ⟨⟨hk_0, fk_0⟩, ⟨hk_1, fk_1⟩, ⟨hk_2, fk_2⟩, ⟨hk_3, fk_3⟩⟩ := T
  have hlk := L; clear L
  obtain ⟨hnk0, hnk1, hkk1, hnk2, hkk2⟩ := ap0 hlk
  have hB := hB'; clear hB'
  have hsz := hB.size
  obtain ⟨p3, cp3, rfl⟩ := hx1.form
  obtain ⟨p4, cp4, rfl⟩ := hx2.form
  have hyz : w.heap.size + 1 ≤ (z.setCell ⟨B, 3, none⟩ (.int .i64 stn)).heap.size := by (try simp only [World.size_setCell]); omega
  have HX := hid (show HoldsS y _ _ ∧ HoldsS y _ _ ∧ (∀ g, _ → w.heap.size + 1 ≤ g) ∧ (∀ g, _ → w.heap.size + 1 ≤ g) from ⟨hx1, hx2, fun g h => Nat.le_trans hyz (hy1 g h), fun g h => Nat.le_trans hyz (hy2 g h)⟩)
  generalize hm3 : (sortS L1).length = m3 at *
  generalize hm4 : (sortS L2).length = m4 at *
  clear hx1 hx2 hy1 hy2 h1f h2f hBf hpf hyz hm3 hm4
  go_wp2
  refine bodyPost_ret (v := .agg #[.slice p3 m3 cp3, .slice p4 m4 cp4, .int .i64 sdn, .int .i64 stn]) (by simp [results, Tryz.results38, go_sem, hk_0, hk_1, hk_2, hk_3] <;> first | done | rfl) rfl ⟨_, _, by rw [HPL.out]; rfl, ?_, ?_, (fun g h => Nat.le_of_succ_le (HX.out.2.2.1 g h)), (fun g h => Nat.le_of_succ_le (HX.out.2.2.2 g h)), by go_grown⟩
  ·rw [HPL.out]
   (repeat (refine holdsE_set (B := w.heap.size + 1) ?_ HX.out.2.2.1 (by simp) _))
   exact HX.out.1
  ·rw [HPL.out]
   (repeat (refine holdsE_set (B := w.heap.size + 1) ?_ HX.out.2.2.2 (by simp) _))
   exact HX.out.2.1
end Go.Proofs.YtjcmblbnbpikfaaGreatDoor
