/- Layer 7's document: Parse: a -/
import Derived.Test.YtjcmblbnbpikfaaGreatDoorDoc12
import Derived.Test.YtjcmblbnbpikfaaGreatDoorDoc12s
import Derived.Test.YtjcmblbnbpikfaaGreatDoorPlace
import Derived.Test.YtjcmblbnbpikfaaGreatDoorRef4
import Derived.Test.YtjcmblbnbpikfaaGreatDoorDoc4
set_option linter.unusedSimpArgs false
set_option linter.unusedVariables false
set_option maxRecDepth 100000
namespace Go.Proofs.YtjcmblbnbpikfaaGreatDoor
open Lib (hid)
open Go.RowKit Go.PlainAid

theorem liner_c (word : Tk) (ts rest : List Tk) (sp : List Mk) (dn tn : Int) (db tb : Bool) (hE : Ended (word :: ts)) (hP : Plains (word :: ts)) (hs : sp.length ≤ 64) (rb S0 : Nat) (vs vk v : Value) (w : World) (hR : Rq rb S0 w sp vs vk dn db tn tb) (hv : HoldsT w v (word :: ts)) (hg : ∀ g, v.ownBlock = some g → g ≠ rb) :
  Calls Tryz.prog 40 #[.pointer (some ⟨rb, 0, none⟩), v] w (LnR rb S0 w (lineM word (ts ++ rest) sp dn db tn tb)) := by
 by_cases h1 : word.t = secretL
 ·exact liner_se word ts rest sp dn tn db tb hE hP hs h1 rb S0 vs vk v w hR hv hg
 ·by_cases h2 : word.t = sinkL
  ·exact liner_si word ts rest sp dn tn db tb hE hP hs h2 rb S0 vs vk v w hR hv hg
  ·by_cases h3 : word.t = declL
   ·exact liner_de word ts rest sp dn tn db tb hE hP h3 rb S0 vs vk v w hR hv hg
   ·by_cases h4 : word.t = traceL
    ·exact liner_tr word ts rest sp dn tn db tb hE hP h4 rb S0 vs vk v w hR hv hg
    ·exact liner_no word ts (ts ++ rest) sp dn tn db tb (hP word (by simp)).1 (.inr (by unfold word4; rw [if_neg h1, if_neg h2, if_neg h3, if_neg h4])) rb S0 vs vk v w hR hv
structure PRel (L : List Tk) (R : PO) (a i : Nat) (sp : List Mk) (dn : Int) (db : Bool) (tn : Int) (tb : Bool) : Prop where
 ai : a ≤ i
 il : i ≤ L.length
 no : ∀ j, a ≤ j → j < i → ∀ x, L[j]? = some x → x.k ≠ 4
 len : sp.length ≤ 64
 go : ∃ f, (L.drop a).length ≤ f ∧ parseL f (L.drop a) sp dn db tn tb = R
theorem PRel.next {L : List Tk} {R : PO} {a i : Nat} {sp : List Mk} {dn tn : Int} {db tb : Bool} (h : PRel L R a i sp dn db tn tb) {x : Tk} (hx : L[i]? = some x) (hk : x.k ≠ 4) : PRel L R a (i + 1) sp dn db tn tb :=
 ⟨Nat.le_succ_of_le h.ai, (List.getElem?_eq_some_iff.1 hx).1, fun j h1 h2 y hy => by
  by_cases e : j = i
  ·subst e; rw [hx] at hy; cases hy; exact hk
  ·exact h.no j h1 (by omega) y hy, h.len, h.go⟩
theorem cut_line {L : List Tk} {a i : Nat} (ha : a ≤ i) {z : Tk} (hz : L[i]? = some z) (hk : z.k = 4) (hn : ∀ j, a ≤ j → j < i → ∀ x, L[j]? = some x → x.k ≠ 4) :
  Ended ((L.drop a).take (i + 1 - a)) ∧ L.drop a = (L.drop a).take (i + 1 - a) ++ L.drop (i + 1) := by
 have hi := (List.getElem?_eq_some_iff.1 hz).1
 constructor
 ·refine ⟨(L.drop a).take (i - a), z, ?_, hk, fun c hc => ?_⟩
  ·rw [show i + 1 - a = (i - a) + 1 by omega, List.take_add_one, List.getElem?_drop, show a + (i - a) = i by omega, hz]
   rfl
  ·obtain ⟨j, hj⟩ := List.getElem?_of_mem hc
   rw [List.getElem?_take] at hj
   split at hj
   ·rw [List.getElem?_drop] at hj
    exact hn (a + j) (by omega) (by omega) c hj
   ·cases hj
 ·have h := (List.take_append_drop (i + 1 - a) (L.drop a)).symm
  rw [List.drop_drop, show a + (i + 1 - a) = i + 1 by omega] at h
  exact h
theorem PRel.line {L : List Tk} {R : PO} {a i : Nat} {sp : List Mk} {dn tn : Int} {db tb : Bool} (h : PRel L R a i sp dn db tn tb) {z : Tk} (hz : L[i]? = some z) (hk : z.k = 4) (hP : Plains L) :
  ∃ word ts, (L.drop a).take (i + 1 - a) = word :: ts ∧ Ended (word :: ts) ∧ Plains (word :: ts) ∧ ∀ o, lineM word (ts ++ L.drop (i + 1)) sp dn db tn tb = o → (o.e ≠ 0 → R = ⟨o.e, o.li, o.co, noPol⟩) ∧ (o.e = 0 → PRel L R (i + 1) (i + 1) o.sp o.dn o.db o.tn o.tb) := by
 obtain ⟨h1, h2⟩ := cut_line h.ai hz hk h.no
 have hi := (List.getElem?_eq_some_iff.1 hz).1
 obtain ⟨word, ts, e⟩ := h1.ne
 have hp : Plains (word :: ts) := e ▸ ((hP.drop a).take (i + 1 - a))
 rw [e] at h1 h2
 rw [List.cons_append] at h2
 obtain ⟨f, hf, hg⟩ := h.go
 rw [h2] at hf hg
 obtain ⟨f, rfl⟩ : ∃ f', f = f' + 1 := ⟨f - 1, by simp only [List.length_cons] at hf; omega⟩
 refine ⟨word, ts, e, h1, hp, fun o ho => ⟨fun he => ?_, fun he => ?_⟩⟩
 ·subst ho
  rw [parseL_err he] at hg
  exact hg.symm
 ·subst ho
  rw [parseL_step h1 hp.texts h.len he] at hg
  refine ⟨Nat.le_refl _, hi, fun j h3 h4 => by omega, (lineM_ok he h.len).2, f, ?_, hg⟩
  simp only [List.length_cons, List.length_append] at hf
  omega
theorem PRel.last {L : List Tk} {R : PO} {a : Nat} {sp : List Mk} {dn tn : Int} {db tb : Bool} (h : PRel L R a L.length sp dn db tn tb) (hW : Whole L) : R = ⟨0, 0, 0, sortP (polM sp dn tb tn)⟩ := by
 have ha : a = L.length := by
  have h1 := h.ai
  rcases hW.2 with h2 | ⟨z, hz, hk⟩
  ·subst h2; simp at h1 ⊢; exact h1
  ·by_cases e : a = L.length
   ·exact e
   ·rw [List.getLast?_eq_getElem?] at hz
    have hl := (List.getElem?_eq_some_iff.1 hz).1
    exact absurd hk (h.no (L.length - 1) (by omega) (by omega) z hz)
 obtain ⟨f, _, hg⟩ := h.go
 rw [ha, List.drop_length, parseL_nil] at hg
 exact hg.symm
theorem PRel.start {L : List Tk} {R : PO} (h : parseL L.length L [] 0 false 0 false = R) : PRel L R 0 0 [] 0 false 0 false :=
 ⟨Nat.le_refl 0, Nat.zero_le _, fun j h1 h2 => by omega, by simp, L.length, by simp, by rw [List.drop_zero]; exact h⟩
theorem holdsT_part {w : World} {g o cap : Nat} {L : List Tk} (hc : ∀ j (x : Tk), L[j]? = some x → w.cell? ⟨g, o + j * 5, none⟩ = some (.int .i64 x.k) ∧ w.cell? ⟨g, o + j * 5 + 1, none⟩ = some (.string (txB x.t)) ∧ w.cell? ⟨g, o + j * 5 + 2, none⟩ = some (.int .i64 x.n) ∧ w.cell? ⟨g, o + j * 5 + 3, none⟩ = some (.int .i64 x.line) ∧ w.cell? ⟨g, o + j * 5 + 4, none⟩ = some (.int .i64 x.col)) {a b : Nat} (hab : a ≤ b) (hb : b ≤ L.length) (hcap : L.length ≤ cap) :
  HoldsT w (.slice (some ⟨g, o + a * 5, none⟩) (b - a) (cap - a)) ((L.drop a).take (b - a)) := by
 refine .inr ⟨g, o + a * 5, cap - a, ?_, ?_, fun j x hx => ?_⟩
 ·rw [List.length_take, List.length_drop, Nat.min_eq_left (by omega)]
 ·rw [List.length_take, List.length_drop]; omega
 ·rw [List.getElem?_take] at hx
  split at hx
  ·rw [List.getElem?_drop] at hx
   have := hc (a + j) x hx
   rw [Nat.add_mul, ← Nat.add_assoc] at this
   exact this
  ·cases hx
theorem Kp.cell {rb S0 : Nat} {w u : World} (h : Kp rb S0 w u) {b o : Nat} {v : Value} (hb : b < S0) (hne : b ≠ rb) (hc : w.cell? ⟨b, o, none⟩ = some v) : u.cell? ⟨b, o, none⟩ = some v := (World.cell?_of_block (h.keep b hb hne)).trans hc
theorem Kp.frozen {rb S0 : Nat} {w u : World} (h : Kp rb S0 w u) {b o : Nat} {x : Bool} (hb : b < S0) (hne : b ≠ rb) (hc : w.frozen? ⟨b, o, none⟩ = x) : u.frozen? ⟨b, o, none⟩ = x := (World.frozen?_of_block (h.keep b hb hne)).trans hc
def DocEnd (w : World) (o : PO) : Ending → World → Prop := fun e w' => ∃ v1 v2 L C, e = .returned (.tuple #[.agg #[v1, v2, .int .i64 o.p.d, .int .i64 o.p.t], .agg #[.int .i64 L, .int .i64 C, .int .i64 o.e]]) ∧ (o.e ≠ 0 → L = o.li ∧ C = o.co) ∧ HoldsD w' v1 o.p.s ∧ HoldsD w' v2 o.p.k ∧ Below w.heap.size w w'
theorem docEnd_no {w w' : World} {o : PO} {E L C : Int} (h : o = ⟨E, L, C, noPol⟩) (hb : Below w.heap.size w w') : DocEnd w o (.returned (.tuple #[.agg #[.slice none 0 0, .slice none 0 0, .int .i64 0, .int .i64 0], .agg #[.int .i64 L, .int .i64 C, .int .i64 E]])) w' := by
 subst h
 exact ⟨_, _, _, _, rfl, fun _ => ⟨rfl, rfl⟩, HoldsE.nil _, HoldsE.nil _, hb⟩
theorem holdsT_some {w : World} {pa : Option Addr} {n cp : Nat} {L : List Tk} (h : HoldsT w (.slice pa n cp) L) (hn : 0 < L.length) : ∃ g o, pa = some ⟨g, o, none⟩ ∧ L.length ≤ cp ∧ ∀ j (x : Tk), L[j]? = some x → w.cell? ⟨g, o + j * 5, none⟩ = some (.int .i64 x.k) ∧ w.cell? ⟨g, o + j * 5 + 1, none⟩ = some (.string (txB x.t)) ∧ w.cell? ⟨g, o + j * 5 + 2, none⟩ = some (.int .i64 x.n) ∧ w.cell? ⟨g, o + j * 5 + 3, none⟩ = some (.int .i64 x.line) ∧ w.cell? ⟨g, o + j * 5 + 4, none⟩ = some (.int .i64 x.col) := by
 rcases h with ⟨_, h⟩ | ⟨g, o, cap, e, hc, h⟩
 ·subst h; exact absurd hn (by simp)
 ·injection e with e1 e2 e3
  subst e3
  exact ⟨g, o, e1, hc, h⟩
theorem HoldsT.kp {rb S0 : Nat} {w u : World} {v : Value} {l : List Tk} (h : HoldsT w v l) (hk : Kp rb S0 w u) (hg : ∀ g, v.ownBlock = some g → g < S0 ∧ g ≠ rb) : HoldsT u v l := by
 rcases h with h | ⟨g, o, cap, e, hc, h⟩
 ·exact .inl h
 ·obtain ⟨h1, h2⟩ := hg g (by rw [e]; rfl)
  exact .inr ⟨g, o, cap, e, hc, fun j x hx => by obtain ⟨a0, a1, a2, a3, a4⟩ := h j x hx; exact ⟨hk.cell h1 h2 a0, hk.cell h1 h2 a1, hk.cell h1 h2 a2, hk.cell h1 h2 a3, hk.cell h1 h2 a4⟩⟩
theorem holds_sorted {w : World} {B m : Nat} {T : TypeId} {v : Value} {l : List Sp} (h : w.ownsRow B T 3 v m ((sortS l).flatMap Sp.plain)) (hm : l.length = m) : HoldsD w v (sortS l) := by
 subst hm
 rw [← sortS_len l] at h
 exact HoldsE.own pl_len h
set_option maxHeartbeats 8000000 in
theorem docp_c (l : List UInt8) (hl : l.length ≤ 65536) (w : World) : Calls Tryz.prog 19 #[.string (txB l)] w (DocEnd w (parseM l)) := by
 obtain ⟨R, hR⟩ : ∃ R, parseM l = R := ⟨_, rfl⟩
 rw [hR]
 have HR := hid hR
 have HS := hid (fun W => scanr_c l hl W)
 have HW := hid (scanD_whole l)
 have HN := hid (scanD_len l)
 have HP := hid (scanD_plain l)
 obtain ⟨O, hO⟩ : ∃ O, scanD l = O := ⟨_, rfl⟩
 unfold parseM at HR
 rw [hO] at HS HW HN HR HP
 obtain ⟨ol, oli, oco, oe⟩ := O
 dsimp only at HR HW HN HP
 unfold ScanEnd at HS
 dsimp only at HS
 clear hR hO hl
 generalize txB l = T at *
 go_enter Tryz.func19, Tryz.ntmps19
 go_wp2_with fail
 ((with_reducible refine (HS.out _).mono ?_); rintro _ u ⟨v, rfl, hown, hb⟩)
 have hs_u := hid hb
 have T : CF u w.heap.size 0 (.slice none 0 0) ∧ CF u w.heap.size 1 (.slice none 0 0) ∧ CF u w.heap.size 2 (.int .i64 0) ∧ CF u w.heap.size 3 (.int .i64 0) ∧ CF u (w.heap.size + 1) 0 (.int .i64 0) ∧ CF u (w.heap.size + 1) 1 (.int .i64 0) ∧ CF u (w.heap.size + 1) 2 (.int .i64 0) := by
   refine ⟨⟨?_, ?_⟩, ⟨?_, ?_⟩, ⟨?_, ?_⟩, ⟨?_, ?_⟩, ⟨?_, ?_⟩, ⟨?_, ?_⟩, ⟨?_, ?_⟩⟩ <;> first | (refine kc hb ?_ <;> (go_simp; first | done | rfl)) | (refine kfz hb ?_ ?_ <;> first | (go_size; done) | (go_simp; done))
 have hz := hb.size
 (try simp only [szA] at hz)
 have L : w.heap.size < u.heap.size ∧ w.heap.size + 1 < u.heap.size := by omega
 have hB' : Below w.heap.size w u := by
   refine kb ?_ hb
   go_grown
 clear hb hz
 obtain ⟨⟨hp_0, fp_0⟩, ⟨hp_1, fp_1⟩, ⟨hp_2, fp_2⟩, ⟨hp_3, fp_3⟩, ⟨hq_0, fq_0⟩, ⟨hq_1, fq_1⟩, ⟨hq_2, fq_2⟩⟩ := T
 obtain ⟨hlp, hlq⟩ := L
 obtain ⟨hnp0, hnp1, hkp1, hnp2, hkp2⟩ := ap0 hlp
 obtain ⟨hnq0, hkq1⟩ := ap1 hlq
 have hB := hB'; clear hB'
 have hsz := hB.size
 obtain ⟨pa, cp, rfl⟩ := own_form hown
 have hou : w.heap.size + 2 ≤ u.heap.size := by have := hs_u.out.size; simpa using this
 have HT := hid (And.intro (holdsT_own hown) (fun g h => (hown.lt g h).2))
 clear hown
 obtain ⟨n, hn⟩ : ∃ n, ol.length = n := ⟨_, rfl⟩
 rw [hn] at HN HT ⊢
 by_cases he : oe = 0
 ·subst he
  have HPL := hid (show parseL ol.length ol [] 0 false 0 false = R by rw [← HR.out, if_neg (by simp)])
  have HLN := hid hn
  clear HR HS hn
  go_wp2_with fail
  go_loopw [8, 9] (fun fr ii wr => ∃ (a i : Nat) (sp : List Mk) (dn tn : Int) (db tb : Bool), fr = .int .i64 a ∧ ii = .int .i64 i ∧ Hid (PRel ol R a i sp dn db tn tb) ∧ Hid (∃ vs vk, Rq (u.heap.size + 1) (u.heap.size + 1 + 1) wr sp vs vk dn db tn tb) ∧ Hid (HoldsT wr (.slice pa n cp) ol) ∧ wr.cell? ⟨w.heap.size, 0, none⟩ = some (.slice none 0 0) ∧ wr.frozen? ⟨w.heap.size, 0, none⟩ = false ∧ wr.cell? ⟨w.heap.size, 1, none⟩ = some (.slice none 0 0) ∧ wr.frozen? ⟨w.heap.size, 1, none⟩ = false ∧ wr.cell? ⟨w.heap.size, 2, none⟩ = some (.int .i64 0) ∧ wr.frozen? ⟨w.heap.size, 2, none⟩ = false ∧ wr.cell? ⟨w.heap.size, 3, none⟩ = some (.int .i64 0) ∧ wr.frozen? ⟨w.heap.size, 3, none⟩ = false ∧ wr.cell? ⟨w.heap.size + 1, 0, none⟩ = some (.int .i64 0) ∧ wr.frozen? ⟨w.heap.size + 1, 0, none⟩ = false ∧ wr.cell? ⟨w.heap.size + 1, 1, none⟩ = some (.int .i64 0) ∧ wr.frozen? ⟨w.heap.size + 1, 1, none⟩ = false ∧ wr.cell? ⟨w.heap.size + 1, 2, none⟩ = some (.int .i64 0) ∧ wr.frozen? ⟨w.heap.size + 1, 2, none⟩ = false ∧ Below w.heap.size w wr) (fun _ ii _ => n - (intOf ii).toNat)
  case atStart =>
   refine ⟨0, 0, [], 0, 0, false, false, rfl, rfl, hid (PRel.start HPL.out), hid ⟨.slice none 0 0, .slice none 0 0, ⟨by go_simp, World.ownsRow_nil _ _ _ _, by go_simp, World.ownsRow_nil _ _ _ _, (fun g h => by cases h), by go_simp, by go_simp, by go_simp, by go_simp, ?_, by omega, by simp⟩⟩, hid (HT.out.1.below (by go_grown)), by go_simp, by go_simp, by go_simp, by go_simp, by go_simp, by go_simp, by go_simp, by go_simp, by go_simp, by go_simp, by go_simp, by go_simp, by go_simp, by go_simp, by go_grown⟩
   intro o ho
   rcases (show o = 0 ∨ o = 1 ∨ o = 2 ∨ o = 3 ∨ o = 4 ∨ o = 5 by omega) with rfl | rfl | rfl | rfl | rfl | rfl <;> go_simp
  case round =>
   obtain ⟨a, i, sp, dn, tn, db, tb, rfl, rfl, HRl, HRq, HTk, hrel⟩ := hrel
   clear hp_0 fp_0 hp_1 fp_1 hp_2 fp_2 hp_3 fp_3 hq_0 fq_0 hq_1 fq_1 hq_2 fq_2 hlp hlq hnp0 hnp1 hkp1 hnp2 hkp2 hnq0 hkq1 hB hsz
   obtain ⟨hp_0, fp_0, hp_1, fp_1, hp_2, fp_2, hp_3, fp_3, hq_0, fq_0, hq_1, fq_1, hq_2, fq_2, hB⟩ := hrel
   have hsz := hB.size
   have hlp := klt hp_0
   have hlq := klt hq_0
   obtain ⟨hnp0, hnp1, hkp1, hnp2, hkp2⟩ := ap0 hlp
   obtain ⟨hnq0, hkq1⟩ := ap1 hlq
   have hou2 := hou
   generalize hrb : u.heap.size + 1 = rb at *
   have HU := hid (And.intro hou hrb)
   clear hrb
   by_cases hi : i < n
   ·have hlen : i < ol.length := by rw [HLN.out]; exact hi
    have hd : decide ((i : Int) < (n : Int)) = true := decide_eq_true (by omega)
    have hN := HN.out
    obtain ⟨x, hx⟩ : ∃ x, ol[i]? = some x := ⟨_, List.getElem?_eq_getElem hlen⟩
    obtain ⟨g, o, hpa, hcap, hc⟩ := holdsT_some HTk.out (by omega)
    have hw1 : IntKind.i64.wrap ((i : Int) + 1) = (i : Int) + 1 := IntWalk.i64_in _ (by omega)
    have hxk := (hc i x hx).1
    have hgw : g < wr.heap.size := klt hxk
    have hgu : g < u.heap.size := HT.out.2 g (by rw [hpa]; rfl)
    subst hpa
    have HC := hid hc
    have HX := hid hx
    have hai := HRl.out.ai
    obtain ⟨xk, xt, xn, xl, xc⟩ := x
    dsimp only at hxk
    clear hc hx
    by_cases hk : xk = 4
    ·subst hk
     obtain ⟨word, ts, et, hE, hP2, hL⟩ := HRl.out.line HX.out rfl HP.out
     have hsl := slice_part g o n cp a (i + 1) (by omega) (by omega) (by omega)
     rw [show ((i + 1 : Nat) : Int) = (i : Int) + 1 by omega] at hsl
     have hV := holdsT_part (a := a) (b := i + 1) HC.out (by omega) (by omega) hcap
     rw [et] at hV
     obtain ⟨V, hVe⟩ : ∃ V : Value, V = .slice (some ⟨g, o + a * 5, none⟩) (i + 1 - a) (cp - a) := ⟨_, rfl⟩
     rw [← hVe] at hsl hV
     have hVo : ∀ g', V.ownBlock = some g' → g' ≠ rb := by
      rw [hVe]; intro g' e; have h2 : g = g' := by simpa [Value.ownBlock] using e
      have := HU.out.2; omega
     clear hVe et
     obtain ⟨vs, vk, hRq⟩ := HRq.out
     obtain ⟨O, hO⟩ : ∃ O, lineM word (ts ++ ol.drop (i + 1)) sp dn db tn tb = O := ⟨_, rfl⟩
     have HLn := hid (liner_c word ts (ol.drop (i + 1)) sp dn tn db tb hE hP2 HRl.out.len rb (rb + 1) vs vk V wr hRq hV hVo)
     rw [hO] at HLn
     have HL := hid (hL O hO)
     clear hL hO hE hP2 hRq hV hVo HRq
     obtain ⟨oe, oli2, oco2, orr, osp, odn, odb, otn, otb⟩ := O
     unfold LnR at HLn
     dsimp only at HLn HL
     go_wp2_with fail
     refine (HLn.out).mono ?_
     rintro _ y ⟨⟨Lr, Cr, rfl, hLC⟩, hkp, hok⟩
     have hrb := HU.out.2
     have hTk2 := HTk.out.kp hkp (fun g' e => by have h2 : g = g' := (by simpa [Value.ownBlock] using e); omega)
     have T : y.cell? ⟨w.heap.size, 0, none⟩ = some (.slice none 0 0) ∧ y.frozen? ⟨w.heap.size, 0, none⟩ = false ∧ y.cell? ⟨w.heap.size, 1, none⟩ = some (.slice none 0 0) ∧ y.frozen? ⟨w.heap.size, 1, none⟩ = false ∧ y.cell? ⟨w.heap.size, 2, none⟩ = some (.int .i64 0) ∧ y.frozen? ⟨w.heap.size, 2, none⟩ = false ∧ y.cell? ⟨w.heap.size, 3, none⟩ = some (.int .i64 0) ∧ y.frozen? ⟨w.heap.size, 3, none⟩ = false ∧ y.cell? ⟨w.heap.size + 1, 0, none⟩ = some (.int .i64 0) ∧ y.frozen? ⟨w.heap.size + 1, 0, none⟩ = false ∧ y.cell? ⟨w.heap.size + 1, 1, none⟩ = some (.int .i64 0) ∧ y.frozen? ⟨w.heap.size + 1, 1, none⟩ = false ∧ y.cell? ⟨w.heap.size + 1, 2, none⟩ = some (.int .i64 0) ∧ y.frozen? ⟨w.heap.size + 1, 2, none⟩ = false ∧ Below w.heap.size w y := ⟨hkp.cell (by omega) (by omega) hp_0, hkp.frozen (by omega) (by omega) fp_0, hkp.cell (by omega) (by omega) hp_1, hkp.frozen (by omega) (by omega) fp_1, hkp.cell (by omega) (by omega) hp_2, hkp.frozen (by omega) (by omega) fp_2, hkp.cell (by omega) (by omega) hp_3, hkp.frozen (by omega) (by omega) fp_3, hkp.cell (by omega) (by omega) hq_0, hkp.frozen (by omega) (by omega) fq_0, hkp.cell (by omega) (by omega) hq_1, hkp.frozen (by omega) (by omega) fq_1, hkp.cell (by omega) (by omega) hq_2, hkp.frozen (by omega) (by omega) fq_2, hB.trans (hkp.below.mono (by omega))⟩
     clear hrb hou2
     have HTk2 := hid hTk2
     have HOK := hid hok
     clear hkp hok hTk2
     clear hp_0 fp_0 hp_1 fp_1 hp_2 fp_2 hp_3 fp_3 hq_0 fq_0 hq_1 fq_1 hq_2 fq_2 hB hsz hlp hlq hnp0 hnp1 hkp1 hnp2 hkp2 hnq0 hkq1
     obtain ⟨hp_0, fp_0, hp_1, fp_1, hp_2, fp_2, hp_3, fp_3, hq_0, fq_0, hq_1, fq_1, hq_2, fq_2, hB⟩ := T
     have hsz := hB.size
     have hlp := klt hp_0
     have hlq := klt hq_0
     obtain ⟨hnp0, hnp1, hkp1, hnp2, hkp2⟩ := ap0 hlp
     obtain ⟨hnq0, hkq1⟩ := ap1 hlq
     by_cases h0 : oe = 0
     ·subst h0
      obtain ⟨vs2, vk2, hR2⟩ := HOK.out rfl
      have HR2 := hid hR2
      have HL2 := hid (HL.out.2 rfl)
      clear hR2 HOK HL hLC
      go_wp2_with fail
      go_roundw
      case rel => exact ⟨i + 1, i + 1, osp, odn, otn, odb, otb, by go_num, by go_num, HL2, hid ⟨vs2, vk2, HR2.out.on (by go_grown)⟩, hid (HTk2.out.below (by go_grown)), by go_simp, by go_simp, by go_simp, by go_simp, by go_simp, by go_simp, by go_simp, by go_simp, by go_simp, by go_simp, by go_simp, by go_simp, by go_simp, by go_simp, by go_grown⟩
      case measure => simp [intOf]; omega
     ·obtain ⟨rfl, rfl⟩ := hLC h0
      have HE := hid (HL.out.1 h0)
      have e1 : (oe == 0) = false := by simpa using h0
      have e2 : (oe != 0) = true := by simp [bne, e1]
      clear HOK HL hLC
      obtain ⟨ya, yb, yc, yd⟩ : ¬ w.heap.size = y.heap.size ∧ ¬ y.heap.size = w.heap.size ∧ ¬ w.heap.size + 1 = y.heap.size ∧ ¬ y.heap.size = w.heap.size + 1 := by omega
      go_wp2_with fail
      refine wp_pin (fun w' => w'.cell? ⟨w.heap.size, 0, none⟩ = some (.slice none 0 0) ∧ w'.frozen? ⟨w.heap.size, 0, none⟩ = false ∧ w'.cell? ⟨w.heap.size, 1, none⟩ = some (.slice none 0 0) ∧ w'.frozen? ⟨w.heap.size, 1, none⟩ = false ∧ w'.cell? ⟨w.heap.size, 2, none⟩ = some (.int .i64 0) ∧ w'.frozen? ⟨w.heap.size, 2, none⟩ = false ∧ w'.cell? ⟨w.heap.size, 3, none⟩ = some (.int .i64 0) ∧ w'.frozen? ⟨w.heap.size, 3, none⟩ = false ∧ w'.cell? ⟨w.heap.size + 1, 0, none⟩ = some (.int .i64 0) ∧ w'.frozen? ⟨w.heap.size + 1, 0, none⟩ = false ∧ w'.cell? ⟨w.heap.size + 1, 1, none⟩ = some (.int .i64 0) ∧ w'.frozen? ⟨w.heap.size + 1, 1, none⟩ = false ∧ w'.cell? ⟨w.heap.size + 1, 2, none⟩ = some (.int .i64 0) ∧ w'.frozen? ⟨w.heap.size + 1, 2, none⟩ = false ∧ w'.cell? ⟨y.heap.size, 0, none⟩ = some (.int .i64 Lr) ∧ w'.cell? ⟨y.heap.size, 1, none⟩ = some (.int .i64 Cr) ∧ w'.cell? ⟨y.heap.size, 2, none⟩ = some (.int .i64 oe) ∧ Below w.heap.size w w') ?_ ?_
      ·(try dsimp only)
       refine ⟨?_, ?_, ?_, ?_, ?_, ?_, ?_, ?_, ?_, ?_, ?_, ?_, ?_, ?_, ?_, ?_, ?_, ?_⟩ <;> first | (go_simp; done) | (simp [*]; done) | go_grown
      intro z T
      (try dsimp only at T)
      clear hp_0 fp_0 hp_1 fp_1 hp_2 fp_2 hp_3 fp_3 hq_0 fq_0 hq_1 fq_1 hq_2 fq_2 hB hsz hlp hlq hnp0 hnp1 hkp1 hnp2 hkp2 hnq0 hkq1
      obtain ⟨hp_0, fp_0, hp_1, fp_1, hp_2, fp_2, hp_3, fp_3, hq_0, fq_0, hq_1, fq_1, hq_2, fq_2, hww_0, hww_1, hww_2, hB⟩ := T
      have hsz := hB.size
      have hlp := klt hp_0
      have hlq := klt hq_0
      have hlww := klt hww_0
      obtain ⟨hnp0, hnp1, hkp1, hnp2, hkp2⟩ := ap0 hlp
      obtain ⟨hnq0, hkq1⟩ := ap1 hlq
      obtain ⟨hnww0, hnww1, hkww1, hnww2, hkww2⟩ := ap0 hlww
      go_region
      all_goals go_wp2
      all_goals refine bodyPost_ret (v := .tuple #[.agg #[.slice none 0 0, .slice none 0 0, .int .i64 0, .int .i64 0], .agg #[.int .i64 Lr, .int .i64 Cr, .int .i64 oe]]) (by simp [results, Tryz.results19, go_sem, hp_0, hp_1, hp_2, hp_3, hq_0, hq_1, hq_2] <;> first | done | rfl) rfl (docEnd_no (HE.out) (by first | go_grown | exact Below.drew (by go_grown)))
    ·have k1 : (xk == 4) = false := by simpa using hk
     have k2 : (xk != 4) = true := by simp [bne, k1]
     have HL2 := hid (HRl.out.next HX.out hk)
     go_wp2_with fail
     go_roundw
     case rel => exact ⟨a, i + 1, sp, dn, tn, db, tb, by go_num, by go_num, HL2, HRq, HTk, hp_0, fp_0, hp_1, fp_1, hp_2, fp_2, hp_3, fp_3, hq_0, fq_0, hq_1, fq_1, hq_2, fq_2, hB⟩
     case measure => simp [intOf]; omega
   ·have hin : i = ol.length := by have := HRl.out.il; have := HLN.out; omega
    have hd : decide ((i : Int) < (n : Int)) = false := decide_eq_false (by omega)
    subst hin
    have HLast := hid (HRl.out.last HW.out)
    obtain ⟨vs, vk, hRq⟩ := HRq.out
    have hl64 := HRl.out.len
    have hboth : (ofM false sp).length + (ofM true sp).length = sp.length := ofM_both false sp
    obtain ⟨p1, c1, rfl⟩ := own_form hRq.os
    obtain ⟨p2, c2, rfl⟩ := own_form hRq.ok
    have HS1 := hid (sortd_c (ofM false sp) (by omega) _ wr (HoldsE.own pl_len hRq.os))
    have HS2 := hid (fun v W h => sortd_c (ofM true sp) (by omega) v W h)
    have HO2 := hid (And.intro (HoldsE.own pl_len hRq.ok) (fun g h => (hRq.ok.lt g h).1))
    have hr_0 := hRq.rs
    have hr_1 := hRq.rk
    have hr_2 := hRq.c2
    have hr_3 := hRq.c3
    have fr_0 := hRq.fr 0 (by omega)
    have fr_1 := hRq.fr 1 (by omega)
    have fr_2 := hRq.fr 2 (by omega)
    have fr_3 := hRq.fr 3 (by omega)
    have hlr : rb < wr.heap.size := by have := hRq.sz; omega
    obtain ⟨TT, hTT⟩ : ∃ TT, (if tb = true then tn else 1024) = TT := ⟨_, rfl⟩
    rw [hTT] at hr_3
    have HTT := hid hTT
    obtain ⟨m1, hm1⟩ : ∃ m, (ofM false sp).length = m := ⟨_, rfl⟩
    obtain ⟨m2, hm2⟩ : ∃ m, (ofM true sp).length = m := ⟨_, rfl⟩
    rw [hm1] at HS1 hr_0
    rw [hm2] at HS2 HO2 hr_1
    obtain ⟨nn, hnn⟩ : ∃ m, ol.length = m := ⟨_, rfl⟩
    rw [hnn] at hd hi ⊢
    have hrw : w.heap.size + 2 < rb := by have := HU.out; omega
    obtain ⟨qa, qb, qc, qd⟩ : ¬ w.heap.size = rb ∧ ¬ rb = w.heap.size ∧ ¬ w.heap.size + 1 = rb ∧ ¬ rb = w.heap.size + 1 := by omega
    have qg : w.heap.size ≤ ({ block := rb, off := 0 } : Addr).block := by dsimp only; omega
    have qh : w.heap.size ≤ ({ block := rb, off := 1 } : Addr).block := by dsimp only; omega
    have HM := hid (And.intro hm1 hm2)
    have HWR := hid (And.intro hlr (And.intro hlp hlq))
    clear hRq hl64 hboth hTT hm1 hm2 hnn HRq HTk hou2
    go_wp2_with fail
    ((with_reducible refine (HS1.out).mono ?_); rintro _ y1 ⟨v1, rfl, h1, hb⟩)
    have hs_y1 := hid hb
    have T : CF y1 w.heap.size 0 (.slice none 0 0) ∧ CF y1 w.heap.size 1 (.slice none 0 0) ∧ CF y1 w.heap.size 2 (.int .i64 0) ∧ CF y1 w.heap.size 3 (.int .i64 0) ∧ CF y1 (w.heap.size + 1) 0 (.int .i64 0) ∧ CF y1 (w.heap.size + 1) 1 (.int .i64 0) ∧ CF y1 (w.heap.size + 1) 2 (.int .i64 0) ∧ CF y1 rb 0 (.slice p1 m1 c1) ∧ CF y1 rb 1 (.slice p2 m2 c2) ∧ CF y1 rb 2 (.int .i64 dn) ∧ CF y1 rb 3 (.int .i64 TT) := by
      refine ⟨⟨?_, ?_⟩, ⟨?_, ?_⟩, ⟨?_, ?_⟩, ⟨?_, ?_⟩, ⟨?_, ?_⟩, ⟨?_, ?_⟩, ⟨?_, ?_⟩, ⟨?_, ?_⟩, ⟨?_, ?_⟩, ⟨?_, ?_⟩, ⟨?_, ?_⟩⟩ <;> first | (refine kc hb ?_ <;> (go_simp; first | done | rfl)) | (refine kfz hb ?_ ?_ <;> first | (go_size; done) | (go_simp; done))
    have hz := hb.size
    (try simp only [szA] at hz)
    have L : w.heap.size < y1.heap.size ∧ w.heap.size + 1 < y1.heap.size ∧ rb < y1.heap.size := by omega
    have hB' : Below w.heap.size w y1 := by
      refine kb ?_ hb
      go_grown
    clear hp_0 fp_0 hp_1 fp_1 hp_2 fp_2 hp_3 fp_3 hq_0 fq_0 hq_1 fq_1 hq_2 fq_2 hB hsz hlp hlq hnp0 hnp1 hkp1 hnp2 hkp2 hnq0 hkq1
    clear hb hz
    obtain ⟨⟨hp_0, fp_0⟩, ⟨hp_1, fp_1⟩, ⟨hp_2, fp_2⟩, ⟨hp_3, fp_3⟩, ⟨hq_0, fq_0⟩, ⟨hq_1, fq_1⟩, ⟨hq_2, fq_2⟩, ⟨hr_0, fr_0⟩, ⟨hr_1, fr_1⟩, ⟨hr_2, fr_2⟩, ⟨hr_3, fr_3⟩⟩ := T
    obtain ⟨hlp, hlq, hlr⟩ := L
    obtain ⟨hnp0, hnp1, hkp1, hnp2, hkp2⟩ := ap0 hlp
    obtain ⟨hnq0, hkq1⟩ := ap1 hlq
    obtain ⟨hnr0, hnr1, hkr1, hnr2, hkr2⟩ := ap0 hlr
    have hB := hB'; clear hB'
    have hsz := hB.size
    obtain ⟨q1, g1, rfl⟩ := own_form h1
    have HX1 := hid (And.intro (holds_sorted h1 HM.out.1) (fun g h => (h1.lt g h).1))
    have HX2 := hid (holdsE_set (B := rb + 1) (p := ⟨rb, 0, none⟩) (HO2.out.1.below hs_y1.out) HO2.out.2 (Nat.lt_succ_self rb) (.slice q1 m1 g1))
    clear h1
    go_wp2_with fail
    ((with_reducible refine (HS2.out _ _ HX2.out).mono ?_); rintro _ y2 ⟨v2, rfl, h2, hb⟩)
    have hs_y2 := hid hb
    have T : CF y2 w.heap.size 0 (.slice none 0 0) ∧ CF y2 w.heap.size 1 (.slice none 0 0) ∧ CF y2 w.heap.size 2 (.int .i64 0) ∧ CF y2 w.heap.size 3 (.int .i64 0) ∧ CF y2 (w.heap.size + 1) 0 (.int .i64 0) ∧ CF y2 (w.heap.size + 1) 1 (.int .i64 0) ∧ CF y2 (w.heap.size + 1) 2 (.int .i64 0) ∧ CF y2 rb 0 (.slice q1 m1 g1) ∧ CF y2 rb 1 (.slice p2 m2 c2) ∧ CF y2 rb 2 (.int .i64 dn) ∧ CF y2 rb 3 (.int .i64 TT) := by
      refine ⟨⟨?_, ?_⟩, ⟨?_, ?_⟩, ⟨?_, ?_⟩, ⟨?_, ?_⟩, ⟨?_, ?_⟩, ⟨?_, ?_⟩, ⟨?_, ?_⟩, ⟨?_, ?_⟩, ⟨?_, ?_⟩, ⟨?_, ?_⟩, ⟨?_, ?_⟩⟩ <;> first | (refine kc hb ?_ <;> (go_simp; first | done | rfl)) | (refine kfz hb ?_ ?_ <;> first | (go_size; done) | (go_simp; done))
    have hz := hb.size
    (try simp only [szA] at hz)
    have L : w.heap.size < y2.heap.size ∧ w.heap.size + 1 < y2.heap.size ∧ rb < y2.heap.size := by omega
    have hB' : Below w.heap.size w y2 := by
      refine kb ?_ hb
      go_grown
    clear hp_0 fp_0 hp_1 fp_1 hp_2 fp_2 hp_3 fp_3 hq_0 fq_0 hq_1 fq_1 hq_2 fq_2 hr_0 fr_0 hr_1 fr_1 hr_2 fr_2 hr_3 fr_3 hlp hlq hlr hnp0 hnp1 hkp1 hnp2 hkp2 hnq0 hkq1 hnr0 hnr1 hkr1 hnr2 hkr2 hB hsz
    clear hb hz
    obtain ⟨⟨hp_0, fp_0⟩, ⟨hp_1, fp_1⟩, ⟨hp_2, fp_2⟩, ⟨hp_3, fp_3⟩, ⟨hq_0, fq_0⟩, ⟨hq_1, fq_1⟩, ⟨hq_2, fq_2⟩, ⟨hr_0, fr_0⟩, ⟨hr_1, fr_1⟩, ⟨hr_2, fr_2⟩, ⟨hr_3, fr_3⟩⟩ := T
    obtain ⟨hlp, hlq, hlr⟩ := L
    obtain ⟨hnp0, hnp1, hkp1, hnp2, hkp2⟩ := ap0 hlp
    obtain ⟨hnq0, hkq1⟩ := ap1 hlq
    obtain ⟨hnr0, hnr1, hkr1, hnr2, hkr2⟩ := ap0 hlr
    have hB := hB'; clear hB'
    have hsz := hB.size
    obtain ⟨q2, g2, rfl⟩ := own_form h2
    have HX3 := hid (And.intro ((holdsE_set (B := wr.heap.size) (p := ⟨rb, 0, none⟩) HX1.out.1 HX1.out.2 HWR.out.1 (.slice q1 m1 g1)).below hs_y2.out) HX1.out.2)
    have HX4 := hid (And.intro (holds_sorted h2 HM.out.2) (fun g h => Nat.le_trans (show wr.heap.size ≤ _ from by rw [World.size_setCell]; exact hs_y1.out.size) (h2.lt g h).1))
    clear h2
    go_wp2_with fail
    refine bodyPost_ret (v := .tuple #[.agg #[.slice q1 m1 g1, .slice q2 m2 g2, .int .i64 dn, .int .i64 TT], .agg #[.int .i64 0, .int .i64 0, .int .i64 0]]) (by simp [results, Tryz.results19, go_sem, hp_0, hp_1, hp_2, hp_3, hq_0, hq_1, hq_2] <;> first | done | rfl) rfl ⟨_, _, 0, 0, by rw [HLast.out, ← HTT.out]; rfl, fun h => absurd (by rw [HLast.out]) h, ?_, ?_, by go_grown⟩
    ·rw [HLast.out]
     (repeat (refine holdsE_set (B := wr.heap.size) ?_ HX3.out.2 (by first | exact HWR.out.1 | exact HWR.out.2.1 | exact HWR.out.2.2) _))
     exact HX3.out.1
    ·rw [HLast.out]
     (repeat (refine holdsE_set (B := wr.heap.size) ?_ HX4.out.2 (by first | exact HWR.out.1 | exact HWR.out.2.1 | exact HWR.out.2.2) _))
     exact HX4.out.1
 ·have HE := hid (show R = ⟨oe, oli, oco, noPol⟩ from HR.out.symm.trans (if_pos he))
  have e1 : (oe == 0) = false := by simpa using he
  have e2 : (oe != 0) = true := by simp [bne, e1]
  clear HR HS hn hs_u
  obtain ⟨ya, yb, yc, yd⟩ : ¬ w.heap.size = u.heap.size ∧ ¬ u.heap.size = w.heap.size ∧ ¬ w.heap.size + 1 = u.heap.size ∧ ¬ u.heap.size = w.heap.size + 1 := by omega
  go_wp2_with fail
  refine wp_pin (fun w' => w'.cell? ⟨w.heap.size, 0, none⟩ = some (.slice none 0 0) ∧ w'.frozen? ⟨w.heap.size, 0, none⟩ = false ∧ w'.cell? ⟨w.heap.size, 1, none⟩ = some (.slice none 0 0) ∧ w'.frozen? ⟨w.heap.size, 1, none⟩ = false ∧ w'.cell? ⟨w.heap.size, 2, none⟩ = some (.int .i64 0) ∧ w'.frozen? ⟨w.heap.size, 2, none⟩ = false ∧ w'.cell? ⟨w.heap.size, 3, none⟩ = some (.int .i64 0) ∧ w'.frozen? ⟨w.heap.size, 3, none⟩ = false ∧ w'.cell? ⟨w.heap.size + 1, 0, none⟩ = some (.int .i64 0) ∧ w'.frozen? ⟨w.heap.size + 1, 0, none⟩ = false ∧ w'.cell? ⟨w.heap.size + 1, 1, none⟩ = some (.int .i64 0) ∧ w'.frozen? ⟨w.heap.size + 1, 1, none⟩ = false ∧ w'.cell? ⟨w.heap.size + 1, 2, none⟩ = some (.int .i64 0) ∧ w'.frozen? ⟨w.heap.size + 1, 2, none⟩ = false ∧ w'.cell? ⟨u.heap.size, 0, none⟩ = some (.int .i64 oli) ∧ w'.cell? ⟨u.heap.size, 1, none⟩ = some (.int .i64 oco) ∧ Below w.heap.size w w') ?_ ?_
  ·(try dsimp only)
   refine ⟨?_, ?_, ?_, ?_, ?_, ?_, ?_, ?_, ?_, ?_, ?_, ?_, ?_, ?_, ?_, ?_, ?_⟩ <;> first | (go_simp; done) | (simp [*]; done) | go_grown
  intro z T
  (try dsimp only at T)
  clear hp_0 fp_0 hp_1 fp_1 hp_2 fp_2 hp_3 fp_3 hq_0 fq_0 hq_1 fq_1 hq_2 fq_2 hlp hlq hnp0 hnp1 hkp1 hnp2 hkp2 hnq0 hkq1 hB hsz
  obtain ⟨hp_0, fp_0, hp_1, fp_1, hp_2, fp_2, hp_3, fp_3, hq_0, fq_0, hq_1, fq_1, hq_2, fq_2, hpl_0, hpl_1, hB⟩ := T
  have hsz := hB.size
  have hlp := klt hp_0
  have hlq := klt hq_0
  have hlpl := klt hpl_0
  obtain ⟨hnp0, hnp1, hkp1, hnp2, hkp2⟩ := ap0 hlp
  obtain ⟨hnq0, hkq1⟩ := ap1 hlq
  obtain ⟨hnpl0, hnpl1, hkpl1, hnpl2, hkpl2⟩ := ap0 hlpl
  go_region
  all_goals go_wp2
  all_goals refine bodyPost_ret (v := .tuple #[.agg #[.slice none 0 0, .slice none 0 0, .int .i64 0, .int .i64 0], .agg #[.int .i64 oli, .int .i64 oco, .int .i64 oe]]) (by simp [results, Tryz.results19, go_sem, hp_0, hp_1, hp_2, hp_3, hq_0, hq_1, hq_2] <;> first | done | rfl) rfl (docEnd_no HE.out (by first | go_grown | exact Below.drew (by go_grown)))
theorem finep_c (l : List UInt8) (w : World) : Calls Tryz.prog 20 #[.string (txB l)] w fun e w' => e = .returned (.bool (decide ((parseM l).e = 0))) ∧ Below w.heap.size w w' := by
 have HS := hid (fun W => parse_c l W)
 obtain ⟨O, hO⟩ : ∃ O, parseM l = O := ⟨_, rfl⟩
 rw [hO] at HS ⊢
 clear hO
 obtain ⟨oe, oli, oco, ps, pk, pd, pt⟩ := O
 unfold ParseEnd at HS
 dsimp only at HS ⊢
 generalize txB l = T at *
 obtain ⟨D, hD⟩ : ∃ D, decide (oe = 0) = D := ⟨_, rfl⟩
 have hd2 : (oe == 0) = D := by rw [← hD]; rfl
 rw [hD]
 clear hD
 go_enter Tryz.func20, Tryz.ntmps20
 go_wp2_with fail
 refine (HS.out _).mono ?_
 rintro _ u ⟨v1, v2, rfl, h1, h2, _, _, hB⟩
 obtain ⟨p1, c1, rfl⟩ := h1.form
 obtain ⟨p2, c2, rfl⟩ := h2.form
 generalize ps.length = n1 at *
 generalize pk.length = n2 at *
 have hsz := hB.size
 clear h1 h2 HS
 cases D
 ·go_wp2
  go_ret
  exact ⟨rfl, by go_grown⟩
 ·go_wp2
  go_ret
  exact ⟨rfl, by go_grown⟩
theorem holdsQ_no (W : World) : HoldsQ W (.agg #[.slice none 0 0, .slice none 0 0, .int .i64 0, .int .i64 0]) noPol := ⟨_, _, rfl, HoldsE.nil _, HoldsE.nil _⟩
theorem noPol_bits : Bits noPol := ⟨fun x hx => (by cases hx), fun x hx => (by cases hx)⟩
theorem parses_out (l : List UInt8) (h : 3000 < l.length) (w : World) (hT : w.cell? ⟨5, 15, none⟩ = some (.int .u8 4)) : Calls Tryz.prog 4 #[.string (txB l)] w (LawEnd w) := by
 have hz := txB_size l
 have d1 : decide ((3000 : Int) < ((txB l).size : Int)) = true := decide_eq_true (by omega)
 have HA := hid (fun W (hb : Below w.heap.size w W) => awake7_c W (kc hb hT))
 generalize txB l = T at *
 clear h hz
 go_enter Tryz.func4, Tryz.ntmps4
 go_wp2_with fail
 refine (HA.out _ (by go_grown)).mono ?_
 rintro _ u ⟨rfl, hb⟩
 go_wp2
 go_ret
 exact ⟨rfl, hb⟩
set_option maxHeartbeats 4000000 in
theorem parses_err (l : List UInt8) (h : l.length ≤ 3000) (hE : (parseM l).e ≠ 0) (w : World) (hT : w.cell? ⟨5, 15, none⟩ = some (.int .u8 4)) : Calls Tryz.prog 4 #[.string (txB l)] w (LawEnd w) := by
 have hz := txB_size l
 have d1 : decide ((3000 : Int) < ((txB l).size : Int)) = false := decide_eq_false (by omega)
 have HA := hid (fun W (hb : Below w.heap.size w W) => awake7_c W (kc hb hT))
 have HS := hid (fun W => parse_c l W)
 have HD := hid (fun W => docp_c l (by omega) W)
 have HF := hid (fun W => finep_c l W)
 have HIs := hid (fun x q W hx hq => is_c noPol ⟨by decide, by decide⟩ noPol_bits x q W hx hq)
 rw [decide_eq_false hE] at HF
 obtain ⟨e1, e2, e3⟩ := parse_err (by omega) hE
 generalize parseM l = O at *
 obtain ⟨oe, oli, oco, op⟩ := O
 dsimp only at hE e1 e2 e3
 subst e1
 unfold ParseEnd noPol at HS
 unfold DocEnd noPol at HD
 dsimp only at HS HD
 have n1 : (oe != 0) = true := by simp [bne, hE]
 have n2 : (oe == 0) = false := by simpa using hE
 have HE := hid hE
 generalize txB l = T at *
 clear h hz hE e2 e3
 go_enter Tryz.func4, Tryz.ntmps4
 go_wp2_with fail
 refine (HS.out _).mono ?_
 rintro _ u ⟨v1, v2, rfl, h1, h2, _, _, hB⟩
 obtain ⟨p1, c1, rfl⟩ := h1.form
 obtain ⟨p2, c2, rfl⟩ := h2.form
 have HP1 := hid (fun W (hb : Below u.heap.size u W) => (show HoldsP W (.agg #[.slice p1 0 c1, .slice p2 0 c2, .int .i64 0, .int .i64 0]) noPol from ⟨_, _, rfl, h1.below hb, h2.below hb⟩))
 simp only [List.length_nil]
 have HB := hid hB
 have HAu := hid (fun W (hb : Below u.heap.size u W) => HA.out W (HB.out.trans (hb.mono HB.out.size)))
 have hbu : Below u.heap.size u u := Below.refl _ _
 clear h1 h2 hB HA HS
 go_wp2_with fail
 ((with_reducible refine (HD.out _).mono ?_); rintro _ y1 ⟨v3, v4, Lr, Cr, rfl, hLC, h3, h4, hb⟩)
 have hs_y1 := hid hb
 have T : CC y1 u.heap.size 0 1 (.slice p1 0 c1) (.slice p2 0 c2) ∧ CC y1 u.heap.size 2 3 (.int .i64 0) (.int .i64 0) ∧ CC y1 (u.heap.size + 1) 0 1 (.int .i64 oli) (.int .i64 oco) := by
   refine ⟨⟨?_, ?_⟩, ⟨?_, ?_⟩, ⟨?_, ?_⟩⟩ <;> refine kc hb ?_ <;> (go_simp; first | done | rfl)
 have hz := hb.size
 (try simp only [szA] at hz)
 have L : u.heap.size < y1.heap.size ∧ u.heap.size + 1 < y1.heap.size := by omega
 have hB' : Below u.heap.size u y1 := by
   refine kb ?_ hb
   go_grown
 clear hb hz
 obtain ⟨⟨ha_0, ha_1⟩, ⟨ha_2, ha_3⟩, ⟨hb_0, hb_1⟩⟩ := T
 obtain ⟨hla, hlb⟩ := L
 obtain ⟨hna0, hna1, hka1, hna2, hka2⟩ := ap0 hla
 obtain ⟨hnb0, hkb1⟩ := ap1 hlb
 have hB := hB'; clear hB'
 have hsz := hB.size
 obtain ⟨rfl, rfl⟩ := hLC HE.out
 obtain ⟨p3, c3, rfl⟩ := h3.form
 obtain ⟨p4, c4, rfl⟩ := h4.form
 clear h3 h4 hLC hs_y1
 simp only [List.length_nil]
 go_wp2_with fail
 ((with_reducible refine (HIs.out _ _ _ (HP1.out _ (by go_grown)) (holdsQ_no _)).mono ?_); rintro _ y2 ⟨rfl, hb⟩)
 have T : CC y2 u.heap.size 0 1 (.slice p1 0 c1) (.slice p2 0 c2) ∧ CC y2 u.heap.size 2 3 (.int .i64 0) (.int .i64 0) ∧ CC y2 (u.heap.size + 1) 0 1 (.int .i64 Lr) (.int .i64 Cr) ∧ CC y2 y1.heap.size 0 1 (.slice p3 0 c3) (.slice p4 0 c4) ∧ CC y2 y1.heap.size 2 3 (.int .i64 0) (.int .i64 0) ∧ CC y2 (y1.heap.size + 1) 0 1 (.int .i64 Lr) (.int .i64 Cr) ∧ y2.cell? ⟨y1.heap.size + 1, 2, none⟩ = some (.int .i64 oe) := by
   refine ⟨⟨?_, ?_⟩, ⟨?_, ?_⟩, ⟨?_, ?_⟩, ⟨?_, ?_⟩, ⟨?_, ?_⟩, ⟨?_, ?_⟩, ?_⟩ <;> refine kc hb ?_ <;> (go_simp; first | done | rfl)
 have hz := hb.size
 (try simp only [szA] at hz)
 have L : u.heap.size < y2.heap.size ∧ u.heap.size + 1 < y2.heap.size ∧ y1.heap.size < y2.heap.size ∧ y1.heap.size + 1 < y2.heap.size := by omega
 have hB' : Below u.heap.size u y2 := by
   refine kb ?_ hb
   go_grown
 clear ha_0 ha_1 ha_2 ha_3 hb_0 hb_1 hla hlb hna0 hna1 hka1 hna2 hka2 hnb0 hkb1 hB hsz
 clear hb hz
 obtain ⟨⟨ha_0, ha_1⟩, ⟨ha_2, ha_3⟩, ⟨hb_0, hb_1⟩, ⟨hc_0, hc_1⟩, ⟨hc_2, hc_3⟩, ⟨hd_0, hd_1⟩, hd_2⟩ := T
 obtain ⟨hla, hlb, hlc, hld⟩ := L
 obtain ⟨hna0, hna1, hka1, hna2, hka2⟩ := ap0 hla
 obtain ⟨hnb0, hkb1⟩ := ap1 hlb
 obtain ⟨hnc0, hnc1, hkc1, hnc2, hkc2⟩ := ap0 hlc
 obtain ⟨hnd0, hkd1⟩ := ap1 hld
 have hB := hB'; clear hB'
 have hsz := hB.size
 go_wp2_with fail
 ((with_reducible refine (HF.out _).mono ?_); rintro _ y3 ⟨rfl, hb⟩)
 have T : CC y3 u.heap.size 0 1 (.slice p1 0 c1) (.slice p2 0 c2) ∧ CC y3 u.heap.size 2 3 (.int .i64 0) (.int .i64 0) ∧ CC y3 (u.heap.size + 1) 0 1 (.int .i64 Lr) (.int .i64 Cr) ∧ CC y3 y1.heap.size 0 1 (.slice p3 0 c3) (.slice p4 0 c4) ∧ CC y3 y1.heap.size 2 3 (.int .i64 0) (.int .i64 0) ∧ CC y3 (y1.heap.size + 1) 0 1 (.int .i64 Lr) (.int .i64 Cr) ∧ y3.cell? ⟨y1.heap.size + 1, 2, none⟩ = some (.int .i64 oe) := by
   refine ⟨⟨?_, ?_⟩, ⟨?_, ?_⟩, ⟨?_, ?_⟩, ⟨?_, ?_⟩, ⟨?_, ?_⟩, ⟨?_, ?_⟩, ?_⟩ <;> refine kc hb ?_ <;> (go_simp; first | done | rfl)
 have hz := hb.size
 (try simp only [szA] at hz)
 have L : u.heap.size < y3.heap.size ∧ u.heap.size + 1 < y3.heap.size ∧ y1.heap.size < y3.heap.size ∧ y1.heap.size + 1 < y3.heap.size := by omega
 have hB' : Below u.heap.size u y3 := by
   refine kb ?_ hb
   go_grown
 clear ha_0 ha_1 ha_2 ha_3 hb_0 hb_1 hc_0 hc_1 hc_2 hc_3 hd_0 hd_1 hd_2 hla hlb hlc hld hna0 hna1 hka1 hna2 hka2 hnb0 hkb1 hnc0 hnc1 hkc1 hnc2 hkc2 hnd0 hkd1 hB hsz
 clear hb hz
 obtain ⟨⟨ha_0, ha_1⟩, ⟨ha_2, ha_3⟩, ⟨hb_0, hb_1⟩, ⟨hc_0, hc_1⟩, ⟨hc_2, hc_3⟩, ⟨hd_0, hd_1⟩, hd_2⟩ := T
 obtain ⟨hla, hlb, hlc, hld⟩ := L
 obtain ⟨hna0, hna1, hka1, hna2, hka2⟩ := ap0 hla
 obtain ⟨hnb0, hkb1⟩ := ap1 hlb
 obtain ⟨hnc0, hnc1, hkc1, hnc2, hkc2⟩ := ap0 hlc
 obtain ⟨hnd0, hkd1⟩ := ap1 hld
 have hB := hB'; clear hB'
 have hsz := hB.size
 go_wp2_with fail
 ((with_reducible refine (HAu.out _ (by go_grown)).mono ?_); rintro _ y4 ⟨rfl, hb⟩)
 have T : CC y4 u.heap.size 0 1 (.slice p1 0 c1) (.slice p2 0 c2) ∧ CC y4 u.heap.size 2 3 (.int .i64 0) (.int .i64 0) ∧ CC y4 (u.heap.size + 1) 0 1 (.int .i64 Lr) (.int .i64 Cr) ∧ CC y4 y1.heap.size 0 1 (.slice p3 0 c3) (.slice p4 0 c4) ∧ CC y4 y1.heap.size 2 3 (.int .i64 0) (.int .i64 0) ∧ CC y4 (y1.heap.size + 1) 0 1 (.int .i64 Lr) (.int .i64 Cr) ∧ y4.cell? ⟨y1.heap.size + 1, 2, none⟩ = some (.int .i64 oe) := by
   refine ⟨⟨?_, ?_⟩, ⟨?_, ?_⟩, ⟨?_, ?_⟩, ⟨?_, ?_⟩, ⟨?_, ?_⟩, ⟨?_, ?_⟩, ?_⟩ <;> refine kc hb ?_ <;> (go_simp; first | done | rfl)
 have hz := hb.size
 (try simp only [szA] at hz)
 have L : u.heap.size < y4.heap.size ∧ u.heap.size + 1 < y4.heap.size ∧ y1.heap.size < y4.heap.size ∧ y1.heap.size + 1 < y4.heap.size := by omega
 have hB' : Below u.heap.size u y4 := by
   refine kb ?_ hb
   go_grown
 clear ha_0 ha_1 ha_2 ha_3 hb_0 hb_1 hc_0 hc_1 hc_2 hc_3 hd_0 hd_1 hd_2 hla hlb hlc hld hna0 hna1 hka1 hna2 hka2 hnb0 hkb1 hnc0 hnc1 hkc1 hnc2 hkc2 hnd0 hkd1 hB hsz
 clear hb hz
 obtain ⟨⟨ha_0, ha_1⟩, ⟨ha_2, ha_3⟩, ⟨hb_0, hb_1⟩, ⟨hc_0, hc_1⟩, ⟨hc_2, hc_3⟩, ⟨hd_0, hd_1⟩, hd_2⟩ := T
 obtain ⟨hla, hlb, hlc, hld⟩ := L
 obtain ⟨hna0, hna1, hka1, hna2, hka2⟩ := ap0 hla
 obtain ⟨hnb0, hkb1⟩ := ap1 hlb
 obtain ⟨hnc0, hnc1, hkc1, hnc2, hkc2⟩ := ap0 hlc
 obtain ⟨hnd0, hkd1⟩ := ap1 hld
 have hB := hB'; clear hB'
 have hsz := hB.size
 go_wp2
 go_ret
 exact ⟨rfl, HB.out.trans (hB.mono HB.out.size)⟩
set_option maxHeartbeats 4000000 in
theorem parses_ok (l : List UInt8) (h : l.length ≤ 3000) (hE : (parseM l).e = 0) (w : World) (hT : w.cell? ⟨5, 15, none⟩ = some (.int .u8 4)) : Calls Tryz.prog 4 #[.string (txB l)] w (LawEnd w) := by
 have hz := txB_size l
 have d1 : decide ((3000 : Int) < ((txB l).size : Int)) = false := decide_eq_false (by omega)
 have HA := hid (fun W (hb : Below w.heap.size w W) => awake7_c W (kc hb hT))
 have HS := hid (fun W => parse_c l W)
 have HD := hid (fun W => docp_c l (by omega) W)
 have HF := hid (fun W => finep_c l W)
 rw [decide_eq_true hE] at HF
 obtain ⟨e1, e2, e3, e4, e5⟩ := parse_ok hE
 generalize parseM l = O at *
 obtain ⟨oe, oli, oco, P⟩ := O
 dsimp only at hE e1 e2 e3 e4 e5
 subst hE; subst e4; subst e5
 have hlen := check_len e1
 have HIs := hid (fun x q W hx hq => is_c P ⟨by omega, by omega⟩ e2 x q W hx hq)
 unfold ParseEnd at HS
 unfold DocEnd at HD
 dsimp only at HS HD
 obtain ⟨ps, pk, pd, pt⟩ := P
 dsimp only at HS HD
 generalize txB l = T at *
 clear h hz e1 e2 e3 hlen
 go_enter Tryz.func4, Tryz.ntmps4
 go_wp2_with fail
 refine (HS.out _).mono ?_
 rintro _ u ⟨v1, v2, rfl, h1, h2, _, _, hB⟩
 obtain ⟨p1, c1, rfl⟩ := h1.form
 obtain ⟨p2, c2, rfl⟩ := h2.form
 have HP1 := hid (fun W (hb : Below u.heap.size u W) => (show HoldsP W (.agg #[.slice p1 ps.length c1, .slice p2 pk.length c2, .int .i64 pd, .int .i64 pt]) ⟨ps, pk, pd, pt⟩ from ⟨_, _, rfl, h1.below hb, h2.below hb⟩))
 obtain ⟨n1, hn1⟩ : ∃ n, ps.length = n := ⟨_, rfl⟩
 obtain ⟨n2, hn2⟩ : ∃ n, pk.length = n := ⟨_, rfl⟩
 rw [hn1, hn2] at HP1
 have HNN := hid (And.intro hn1 hn2)
 rw [hn1, hn2]
 have HB := hid hB
 have HAu := hid (fun W (hb : Below u.heap.size u W) => HA.out W (HB.out.trans (hb.mono HB.out.size)))
 have hbu : Below u.heap.size u u := Below.refl _ _
 clear h1 h2 hB HA HS hn1 hn2
 go_wp2_with fail
 ((with_reducible refine (HD.out _).mono ?_); rintro _ y1 ⟨v3, v4, Lr, Cr, rfl, _, h3, h4, hb⟩)
 have hs_y1 := hid hb
 have T : CC y1 u.heap.size 0 1 (.slice p1 n1 c1) (.slice p2 n2 c2) ∧ CC y1 u.heap.size 2 3 (.int .i64 pd) (.int .i64 pt) ∧ CC y1 (u.heap.size + 1) 0 1 (.int .i64 0) (.int .i64 0) := by
   refine ⟨⟨?_, ?_⟩, ⟨?_, ?_⟩, ⟨?_, ?_⟩⟩ <;> refine kc hb ?_ <;> (go_simp; first | done | rfl)
 have hz := hb.size
 (try simp only [szA] at hz)
 have L : u.heap.size < y1.heap.size ∧ u.heap.size + 1 < y1.heap.size := by omega
 have hB' : Below u.heap.size u y1 := by
   refine kb ?_ hb
   go_grown
 clear hb hz
 obtain ⟨⟨ha_0, ha_1⟩, ⟨ha_2, ha_3⟩, ⟨hb_0, hb_1⟩⟩ := T
 obtain ⟨hla, hlb⟩ := L
 obtain ⟨hna0, hna1, hka1, hna2, hka2⟩ := ap0 hla
 obtain ⟨hnb0, hkb1⟩ := ap1 hlb
 have hB := hB'; clear hB'
 have hsz := hB.size
 obtain ⟨p3, c3, rfl⟩ := h3.form
 obtain ⟨p4, c4, rfl⟩ := h4.form
 rw [HNN.out.1] at h3 ⊢
 rw [HNN.out.2] at h4 ⊢
 have HQ1 := hid (fun W (hb : Below y1.heap.size y1 W) => (show HoldsQ W (.agg #[.slice p3 n1 c3, .slice p4 n2 c4, .int .i64 pd, .int .i64 pt]) ⟨ps, pk, pd, pt⟩ from ⟨_, _, rfl, h3.below hb, h4.below hb⟩))
 clear h3 h4 hs_y1
 have hby : Below y1.heap.size y1 y1 := Below.refl _ _
 go_wp2_with fail
 ((with_reducible refine (HIs.out _ _ _ (HP1.out _ (by go_grown)) (HQ1.out _ (by go_grown))).mono ?_); rintro _ y2 ⟨rfl, hb⟩)
 have T : CC y2 u.heap.size 0 1 (.slice p1 n1 c1) (.slice p2 n2 c2) ∧ CC y2 u.heap.size 2 3 (.int .i64 pd) (.int .i64 pt) ∧ CC y2 (u.heap.size + 1) 0 1 (.int .i64 0) (.int .i64 0) ∧ CC y2 y1.heap.size 0 1 (.slice p3 n1 c3) (.slice p4 n2 c4) ∧ CC y2 y1.heap.size 2 3 (.int .i64 pd) (.int .i64 pt) ∧ CC y2 (y1.heap.size + 1) 0 1 (.int .i64 Lr) (.int .i64 Cr) ∧ y2.cell? ⟨y1.heap.size + 1, 2, none⟩ = some (.int .i64 0) := by
   refine ⟨⟨?_, ?_⟩, ⟨?_, ?_⟩, ⟨?_, ?_⟩, ⟨?_, ?_⟩, ⟨?_, ?_⟩, ⟨?_, ?_⟩, ?_⟩ <;> refine kc hb ?_ <;> (go_simp; first | done | rfl)
 have hz := hb.size
 (try simp only [szA] at hz)
 have L : u.heap.size < y2.heap.size ∧ u.heap.size + 1 < y2.heap.size ∧ y1.heap.size < y2.heap.size ∧ y1.heap.size + 1 < y2.heap.size := by omega
 have hB' : Below u.heap.size u y2 := by
   refine kb ?_ hb
   go_grown
 clear ha_0 ha_1 ha_2 ha_3 hb_0 hb_1 hla hlb hna0 hna1 hka1 hna2 hka2 hnb0 hkb1 hB hsz
 clear hb hz
 obtain ⟨⟨ha_0, ha_1⟩, ⟨ha_2, ha_3⟩, ⟨hb_0, hb_1⟩, ⟨hc_0, hc_1⟩, ⟨hc_2, hc_3⟩, ⟨hd_0, hd_1⟩, hd_2⟩ := T
 obtain ⟨hla, hlb, hlc, hld⟩ := L
 obtain ⟨hna0, hna1, hka1, hna2, hka2⟩ := ap0 hla
 obtain ⟨hnb0, hkb1⟩ := ap1 hlb
 obtain ⟨hnc0, hnc1, hkc1, hnc2, hkc2⟩ := ap0 hlc
 obtain ⟨hnd0, hkd1⟩ := ap1 hld
 have hB := hB'; clear hB'
 have hsz := hB.size
 go_wp2_with fail
 ((with_reducible refine (HF.out _).mono ?_); rintro _ y3 ⟨rfl, hb⟩)
 have T : CC y3 u.heap.size 0 1 (.slice p1 n1 c1) (.slice p2 n2 c2) ∧ CC y3 u.heap.size 2 3 (.int .i64 pd) (.int .i64 pt) ∧ CC y3 (u.heap.size + 1) 0 1 (.int .i64 0) (.int .i64 0) ∧ CC y3 y1.heap.size 0 1 (.slice p3 n1 c3) (.slice p4 n2 c4) ∧ CC y3 y1.heap.size 2 3 (.int .i64 pd) (.int .i64 pt) ∧ CC y3 (y1.heap.size + 1) 0 1 (.int .i64 Lr) (.int .i64 Cr) ∧ y3.cell? ⟨y1.heap.size + 1, 2, none⟩ = some (.int .i64 0) := by
   refine ⟨⟨?_, ?_⟩, ⟨?_, ?_⟩, ⟨?_, ?_⟩, ⟨?_, ?_⟩, ⟨?_, ?_⟩, ⟨?_, ?_⟩, ?_⟩ <;> refine kc hb ?_ <;> (go_simp; first | done | rfl)
 have hz := hb.size
 (try simp only [szA] at hz)
 have L : u.heap.size < y3.heap.size ∧ u.heap.size + 1 < y3.heap.size ∧ y1.heap.size < y3.heap.size ∧ y1.heap.size + 1 < y3.heap.size := by omega
 have hB' : Below u.heap.size u y3 := by
   refine kb ?_ hb
   go_grown
 clear ha_0 ha_1 ha_2 ha_3 hb_0 hb_1 hc_0 hc_1 hc_2 hc_3 hd_0 hd_1 hd_2 hla hlb hlc hld hna0 hna1 hka1 hna2 hka2 hnb0 hkb1 hnc0 hnc1 hkc1 hnc2 hkc2 hnd0 hkd1 hB hsz
 clear hb hz
 obtain ⟨⟨ha_0, ha_1⟩, ⟨ha_2, ha_3⟩, ⟨hb_0, hb_1⟩, ⟨hc_0, hc_1⟩, ⟨hc_2, hc_3⟩, ⟨hd_0, hd_1⟩, hd_2⟩ := T
 obtain ⟨hla, hlb, hlc, hld⟩ := L
 obtain ⟨hna0, hna1, hka1, hna2, hka2⟩ := ap0 hla
 obtain ⟨hnb0, hkb1⟩ := ap1 hlb
 obtain ⟨hnc0, hnc1, hkc1, hnc2, hkc2⟩ := ap0 hlc
 obtain ⟨hnd0, hkd1⟩ := ap1 hld
 have hB := hB'; clear hB'
 have hsz := hB.size
 go_wp2_with fail
 ((with_reducible refine (HAu.out _ (by go_grown)).mono ?_); rintro _ y4 ⟨rfl, hb⟩)
 have T : CC y4 u.heap.size 0 1 (.slice p1 n1 c1) (.slice p2 n2 c2) ∧ CC y4 u.heap.size 2 3 (.int .i64 pd) (.int .i64 pt) ∧ CC y4 (u.heap.size + 1) 0 1 (.int .i64 0) (.int .i64 0) ∧ CC y4 y1.heap.size 0 1 (.slice p3 n1 c3) (.slice p4 n2 c4) ∧ CC y4 y1.heap.size 2 3 (.int .i64 pd) (.int .i64 pt) ∧ CC y4 (y1.heap.size + 1) 0 1 (.int .i64 Lr) (.int .i64 Cr) ∧ y4.cell? ⟨y1.heap.size + 1, 2, none⟩ = some (.int .i64 0) := by
   refine ⟨⟨?_, ?_⟩, ⟨?_, ?_⟩, ⟨?_, ?_⟩, ⟨?_, ?_⟩, ⟨?_, ?_⟩, ⟨?_, ?_⟩, ?_⟩ <;> refine kc hb ?_ <;> (go_simp; first | done | rfl)
 have hz := hb.size
 (try simp only [szA] at hz)
 have L : u.heap.size < y4.heap.size ∧ u.heap.size + 1 < y4.heap.size ∧ y1.heap.size < y4.heap.size ∧ y1.heap.size + 1 < y4.heap.size := by omega
 have hB' : Below u.heap.size u y4 := by
   refine kb ?_ hb
   go_grown
 clear ha_0 ha_1 ha_2 ha_3 hb_0 hb_1 hc_0 hc_1 hc_2 hc_3 hd_0 hd_1 hd_2 hla hlb hlc hld hna0 hna1 hka1 hna2 hka2 hnb0 hkb1 hnc0 hnc1 hkc1 hnc2 hkc2 hnd0 hkd1 hB hsz
 clear hb hz
 obtain ⟨⟨ha_0, ha_1⟩, ⟨ha_2, ha_3⟩, ⟨hb_0, hb_1⟩, ⟨hc_0, hc_1⟩, ⟨hc_2, hc_3⟩, ⟨hd_0, hd_1⟩, hd_2⟩ := T
 obtain ⟨hla, hlb, hlc, hld⟩ := L
 obtain ⟨hna0, hna1, hka1, hna2, hka2⟩ := ap0 hla
 obtain ⟨hnb0, hkb1⟩ := ap1 hlb
 obtain ⟨hnc0, hnc1, hkc1, hnc2, hkc2⟩ := ap0 hlc
 obtain ⟨hnd0, hkd1⟩ := ap1 hld
 have hB := hB'; clear hB'
 have hsz := hB.size
 go_wp2
 go_ret
 exact ⟨rfl, HB.out.trans (hB.mono HB.out.size)⟩
theorem parses_walk (l : List UInt8) (w : World) (hT : w.cell? ⟨5, 15, none⟩ = some (.int .u8 4)) : Calls Tryz.prog 4 #[.string (txB l)] w (LawEnd w) := by
 by_cases h : l.length ≤ 3000
 ·by_cases hE : (parseM l).e = 0
  ·exact parses_ok l h hE w hT
  ·exact parses_err l h hE w hT
 ·exact parses_out l (by omega) w hT
end Go.Proofs.YtjcmblbnbpikfaaGreatDoor
