/- Layer 7, the program's Parse: -/
import Derived.Test.YtjcmblbnbpikfaaGreatDoorWhole
set_option linter.unusedSimpArgs false
set_option linter.unusedVariables false
namespace Go.Proofs.YtjcmblbnbpikfaaGreatDoor
open Lib (hid)
open Go.RowKit Go.PlainAid

structure PMid (B0 : World) (N0 rb : Nat) (w : World) (s : St) : Prop where
 rd : Rd rb (rb + 2) w s
 map : w.heap[rb + 1]? = some (.map (entries rb) 4)
 c0 : w.cell? ⟨N0, 0, none⟩ = some (.slice none 0 0)
 c1 : w.cell? ⟨N0, 1, none⟩ = some (.slice none 0 0)
 c2 : w.cell? ⟨N0, 2, none⟩ = some (.int .i64 0)
 c3 : w.cell? ⟨N0, 3, none⟩ = some (.int .i64 0)
 d0 : w.cell? ⟨N0 + 1, 0, none⟩ = some (.int .i64 0)
 d1 : w.cell? ⟨N0 + 1, 1, none⟩ = some (.int .i64 0)
 f0 : ∀ o, o < 4 → w.frozen? ⟨N0, o, none⟩ = false
 f1 : ∀ o, o < 2 → w.frozen? ⟨N0 + 1, o, none⟩ = false
 lt : N0 + 1 < rb
 below : Below N0 B0 w
theorem PMid.tur {B0 : World} {N0 rb : Nat} {w u : World} {s s' : St} {v : Value} (h : PMid B0 N0 rb w s) (ht : Tur rb (rb + 2) v w u) (hr : Rd rb (rb + 2) u s') : PMid B0 N0 rb u s' := by
 have hlt := h.lt
 have hk : ∀ b, b < rb → u.heap[b]? = w.heap[b]? := fun b hb => ht.keep b (by omega) (by omega)
 have c : ∀ b o v, b < rb → w.cell? ⟨b, o, none⟩ = some v → u.cell? ⟨b, o, none⟩ = some v := fun b o v hb hc => (World.cell?_of_block (hk b hb)).trans hc
 have f : ∀ b o, b < rb → w.frozen? ⟨b, o, none⟩ = false → u.frozen? ⟨b, o, none⟩ = false := fun b o hb hc => (World.frozen?_of_block (a := ⟨b, o, none⟩) (hk b hb)).trans hc
 exact ⟨hr, (ht.keep _ (by omega) (by omega)).trans h.map, c _ _ _ (by omega) h.c0, c _ _ _ (by omega) h.c1, c _ _ _ (by omega) h.c2, c _ _ _ (by omega) h.c3, c _ _ _ (by omega) h.d0, c _ _ _ (by omega) h.d1,
  fun o ho => f _ _ (by omega) (h.f0 o ho), fun o ho => f _ _ (by omega) (h.f1 o ho), hlt, h.below.trans (ht.below.mono (by omega))⟩
theorem PMid.on {B0 : World} {N0 rb : Nat} {w u : World} {s : St} (h : PMid B0 N0 rb w s) (hb : Below w.heap.size w u) : PMid B0 N0 rb u s :=
 h.tur (v := .nilFunc) (Tur.of_below hb h.rd.lt h.rd.sz) (h.rd.on hb)
theorem PMid.left {B0 : World} {N0 rb : Nat} {w : World} {s : St} (h : PMid B0 N0 rb w s) {v' : Value} {r : List Tk} (hv : HoldsT w v' r) (hl : ∀ g, v'.ownBlock = some g → g < rb) : PMid B0 N0 rb (w.setCell ⟨rb, 0, none⟩ v') { s with left := r } := by
 have hg : w.grownBy (w.setCell ⟨rb, 0, none⟩ v') (some rb) := grown_set (World.grownBy.refl _ _)
 obtain ⟨v, a1, _, _⟩ := h.rd.left
 have f0 := h.rd.fr 0 (by omega)
 refine h.tur (v := .nilFunc) (Tur.of_grown hg h.rd.lt h.rd.sz) (h.rd.next hg (by go_simp) (fun o ho => ?_) (fun o => World.frozen?_setCell _ _ _ _) hv hl)
 exact World.cell?_setCell_other _ _ _ _ (by intro e; injection e with e1 e2; exact ho e2.symm)
structure POut (B0 : World) (N0 : Nat) (w : World) : Prop where
 c0 : w.cell? ⟨N0, 0, none⟩ = some (.slice none 0 0)
 c1 : w.cell? ⟨N0, 1, none⟩ = some (.slice none 0 0)
 c2 : w.cell? ⟨N0, 2, none⟩ = some (.int .i64 0)
 c3 : w.cell? ⟨N0, 3, none⟩ = some (.int .i64 0)
 d0 : w.cell? ⟨N0 + 1, 0, none⟩ = some (.int .i64 0)
 d1 : w.cell? ⟨N0 + 1, 1, none⟩ = some (.int .i64 0)
 f0 : ∀ o, o < 4 → w.frozen? ⟨N0, o, none⟩ = false
 f1 : ∀ o, o < 2 → w.frozen? ⟨N0 + 1, o, none⟩ = false
 below : Below N0 B0 w
theorem PMid.out {B0 : World} {N0 rb : Nat} {w u : World} {s : St} {v : Value} (h : PMid B0 N0 rb w s) (ht : Tur rb (rb + 2) v w u) : POut B0 N0 u := by
 have hlt := h.lt
 have hk : ∀ b, b < rb → u.heap[b]? = w.heap[b]? := fun b hb => ht.keep b (by omega) (by omega)
 have c : ∀ b o v, b < rb → w.cell? ⟨b, o, none⟩ = some v → u.cell? ⟨b, o, none⟩ = some v := fun b o v hb hc => (World.cell?_of_block (hk b hb)).trans hc
 have f : ∀ b o, b < rb → w.frozen? ⟨b, o, none⟩ = false → u.frozen? ⟨b, o, none⟩ = false := fun b o hb hc => (World.frozen?_of_block (a := ⟨b, o, none⟩) (hk b hb)).trans hc
 exact ⟨c _ _ _ (by omega) h.c0, c _ _ _ (by omega) h.c1, c _ _ _ (by omega) h.c2, c _ _ _ (by omega) h.c3, c _ _ _ (by omega) h.d0, c _ _ _ (by omega) h.d1,
  fun o ho => f _ _ (by omega) (h.f0 o ho), fun o ho => f _ _ (by omega) (h.f1 o ho), h.below.trans (ht.below.mono (by omega))⟩
theorem word4_enters {t : List UInt8} {f : FuncId} (h : word4 t = some f) (args : Array Value) (W : World) : (callFunc f args).run Tryz.prog W = .ok (.enter f args) W := by
 unfold word4 at h
 by_cases h1 : t = secretL
 ·rw [if_pos h1] at h; cases h; exact (enters_of Tryz.func34 (by kernel_rfl) rfl) args W
 ·rw [if_neg h1] at h
  by_cases h2 : t = sinkL
  ·rw [if_pos h2] at h; cases h; exact (enters_of Tryz.func35 (by kernel_rfl) rfl) args W
  ·rw [if_neg h2] at h
   by_cases h3 : t = declL
   ·rw [if_pos h3] at h; cases h; exact (enters_of Tryz.func36 (by kernel_rfl) rfl) args W
   ·rw [if_neg h3] at h
    by_cases h4 : t = traceL
    ·rw [if_pos h4] at h; cases h; exact (enters_of Tryz.func37 (by kernel_rfl) rfl) args W
    ·rw [if_neg h4] at h; cases h
theorem lineM_no {word : Tk} (h : word4 word.t = none) (l : List Tk) (sp : List Mk) (dn : Int) (db : Bool) (tn : Int) (tb : Bool) : lineM word l sp dn db tn tb = ⟨14, word.line, word.col, [], [], 0, false, 0, false⟩ := by
 unfold word4 at h
 unfold lineM
 by_cases h1 : word.t = secretL
 ·rw [if_pos h1] at h; cases h
 ·rw [if_neg h1] at h ⊢
  by_cases h2 : word.t = sinkL
  ·rw [if_pos h2] at h; cases h
  ·rw [if_neg h2] at h ⊢
   by_cases h3 : word.t = declL
   ·rw [if_pos h3] at h; cases h
   ·rw [if_neg h3] at h ⊢
    by_cases h4 : word.t = traceL
    ·rw [if_pos h4] at h; cases h
    ·rw [if_neg h4]
theorem parseL_nil (k : Nat) (sp : List Mk) (dn : Int) (db : Bool) (tn : Int) (tb : Bool) : parseL k [] sp dn db tn tb = ⟨0, 0, 0, sortP (polM sp dn tb tn)⟩ := by cases k <;> rfl
theorem word4_ne {t : List UInt8} {f : FuncId} (h : word4 t = some f) : t ≠ [] := by
 rintro rfl
 unfold word4 secretL sinkL declL traceL at h
 rw [if_neg (by simp), if_neg (by simp), if_neg (by simp), if_neg (by simp)] at h
 cases h
def ParseEnd (w : World) (o : PO) : Ending → World → Prop := fun e w' => ∃ v1 v2, e = .returned (.tuple #[.agg #[v1, v2, .int .i64 o.p.d, .int .i64 o.p.t], .agg #[.int .i64 o.li, .int .i64 o.co], .int .i64 o.e]) ∧ HoldsS w' v1 o.p.s ∧ HoldsS w' v2 o.p.k ∧ (∀ g, v1.ownBlock = some g → w.heap.size ≤ g) ∧ (∀ g, v2.ownBlock = some g → w.heap.size ≤ g) ∧ Below w.heap.size w w'
theorem parseEnd_no {w w' : World} {o : PO} {E L C : Int} (h : o = ⟨E, L, C, noPol⟩) (hb : Below w.heap.size w w') : ParseEnd w o (.returned (.tuple #[.agg #[.slice none 0 0, .slice none 0 0, .int .i64 0, .int .i64 0], .agg #[.int .i64 L, .int .i64 C], .int .i64 E])) w' := by
 subst h
 exact ⟨_, _, rfl, HoldsE.nil _, HoldsE.nil _, (fun g h => by cases h), (fun g h => by cases h), hb⟩
set_option maxRecDepth 100000 in
set_option maxHeartbeats 4000000 in
theorem parse_c (l : List UInt8) (w : World) : Calls Tryz.prog 18 #[.string (txB l)] w (ParseEnd w (parseM l)) := by
 obtain ⟨R, hR⟩ : ∃ R, parseM l = R := ⟨_, rfl⟩
 rw [hR]
 have HR := hid hR
 have HS := hid (fun W => scanp_c l W)
 have HW := hid (scanD_whole l)
 have HN := hid (scanD_len l)
 obtain ⟨O, hO⟩ : ∃ O, scanD l = O := ⟨_, rfl⟩
 unfold parseM at HR
 rw [hO] at HS HW HN HR
 obtain ⟨ol, oli, oco, oe⟩ := O
 dsimp only at HR HW HN
 unfold ScanEnd at HS
 dsimp only at HS
 clear hR hO
 generalize txB l = T at *
 have hmm := @run_makeMap Tryz.prog
 go_enter Tryz.func18, Tryz.ntmps18
 go_wp2_with fail
 ((with_reducible refine (HS.out _).mono ?_); rintro _ u ⟨v, rfl, hown, hb⟩)
 have hs_u := hid hb
 have T : CF u w.heap.size 0 (.slice none 0 0) ∧ CF u w.heap.size 1 (.slice none 0 0) ∧ CF u w.heap.size 2 (.int .i64 0) ∧ CF u w.heap.size 3 (.int .i64 0) ∧ CF u (w.heap.size + 1) 0 (.int .i64 0) ∧ CF u (w.heap.size + 1) 1 (.int .i64 0) := by
   refine ⟨⟨?_, ?_⟩, ⟨?_, ?_⟩, ⟨?_, ?_⟩, ⟨?_, ?_⟩, ⟨?_, ?_⟩, ⟨?_, ?_⟩⟩ <;> first | (refine kc hb ?_ <;> (go_simp; first | done | rfl)) | (refine kfz hb ?_ ?_ <;> first | (go_size; done) | (go_simp; done))
 have hz := hb.size
 (try simp only [szA] at hz)
 have L : w.heap.size < u.heap.size ∧ w.heap.size + 1 < u.heap.size := by omega
 have hB' : Below w.heap.size w u := by
   refine kb ?_ hb
   go_grown
 clear hb hz
 obtain ⟨⟨hp_0, fp_0⟩, ⟨hp_1, fp_1⟩, ⟨hp_2, fp_2⟩, ⟨hp_3, fp_3⟩, ⟨hq_0, fq_0⟩, ⟨hq_1, fq_1⟩⟩ := T
 obtain ⟨hlp, hlq⟩ := L
 obtain ⟨hnp0, hnp1, hkp1, hnp2, hkp2⟩ := ap0 hlp
 obtain ⟨hnq0, hkq1⟩ := ap1 hlq
 have hB := hB'; clear hB'
 have hsz := hB.size
 obtain ⟨pa, cp, rfl⟩ := own_form hown
 have hou : w.heap.size + 2 ≤ u.heap.size := by have := hs_u.out.size; simpa using this
 have HOWN := hid (And.intro hown hou)
 have hTok := hid (And.intro (holdsT_own hown) (fun g h => (hown.lt g h).2))
 clear hown
 obtain ⟨n, hn⟩ : ∃ n, ol.length = n := ⟨_, rfl⟩
 rw [hn] at HOWN HN hTok ⊢
 by_cases he : oe = 0
 ·subst he
  have HPL := hid (show parseL n ol [] 0 false 0 false = R by rw [← HR.out, if_neg (by simp), hn])
  have HLN := hid hn
  clear HR HS HOWN hn
  have hI0 := ins_run ⟨#[115, 101, 99, 114, 101, 116]⟩ (.func (.func 34) #[.pointer (some ⟨u.heap.size + 1, 0, none⟩)] #[]) #[] 0 ((u.alloc (.cells #[.int .i64 oli, .int .i64 oco] 43)).alloc (.cells #[.slice pa n cp, .slice none 0 0, .int .i64 0, .bool false, .int .i64 0, .bool false] 77)) (fun x hx => by simp at hx)
  simp only [World.size_alloc] at hI0
  have hI1 := ins_run ⟨#[115, 105, 110, 107]⟩ (.func (.func 35) #[.pointer (some ⟨u.heap.size + 1, 0, none⟩)] #[]) #[⟨.string ⟨#[115, 101, 99, 114, 101, 116]⟩, (.func (.func 34) #[.pointer (some ⟨u.heap.size + 1, 0, none⟩)] #[]), 0⟩] 1 ((u.alloc (.cells #[.int .i64 oli, .int .i64 oco] 43)).alloc (.cells #[.slice pa n cp, .slice none 0 0, .int .i64 0, .bool false, .int .i64 0, .bool false] 77)) (fun x hx => by simp at hx; rcases hx with rfl <;> exact ⟨_, rfl, by decide⟩)
  simp only [World.size_alloc] at hI1
  have hI2 := ins_run ⟨#[100, 101, 99, 108, 97, 115, 115, 105, 102, 121]⟩ (.func (.func 36) #[.pointer (some ⟨u.heap.size + 1, 0, none⟩)] #[]) #[⟨.string ⟨#[115, 101, 99, 114, 101, 116]⟩, (.func (.func 34) #[.pointer (some ⟨u.heap.size + 1, 0, none⟩)] #[]), 0⟩, ⟨.string ⟨#[115, 105, 110, 107]⟩, (.func (.func 35) #[.pointer (some ⟨u.heap.size + 1, 0, none⟩)] #[]), 1⟩] 2 ((u.alloc (.cells #[.int .i64 oli, .int .i64 oco] 43)).alloc (.cells #[.slice pa n cp, .slice none 0 0, .int .i64 0, .bool false, .int .i64 0, .bool false] 77)) (fun x hx => by simp at hx; rcases hx with rfl | rfl <;> exact ⟨_, rfl, by decide⟩)
  simp only [World.size_alloc] at hI2
  have hI3 := ins_run ⟨#[116, 114, 97, 99, 101]⟩ (.func (.func 37) #[.pointer (some ⟨u.heap.size + 1, 0, none⟩)] #[]) #[⟨.string ⟨#[115, 101, 99, 114, 101, 116]⟩, (.func (.func 34) #[.pointer (some ⟨u.heap.size + 1, 0, none⟩)] #[]), 0⟩, ⟨.string ⟨#[115, 105, 110, 107]⟩, (.func (.func 35) #[.pointer (some ⟨u.heap.size + 1, 0, none⟩)] #[]), 1⟩, ⟨.string ⟨#[100, 101, 99, 108, 97, 115, 115, 105, 102, 121]⟩, (.func (.func 36) #[.pointer (some ⟨u.heap.size + 1, 0, none⟩)] #[]), 2⟩] 3 ((u.alloc (.cells #[.int .i64 oli, .int .i64 oco] 43)).alloc (.cells #[.slice pa n cp, .slice none 0 0, .int .i64 0, .bool false, .int .i64 0, .bool false] 77)) (fun x hx => by simp at hx; rcases hx with rfl | rfl | rfl <;> exact ⟨_, rfl, by decide⟩)
  simp only [World.size_alloc] at hI3
  go_wp2_with fail
  clear hI0 hI1 hI2 hI3 hmm
  go_loopg [10] n (fun kx s10 wr => ∃ s : St, Hid (PMid w w.heap.size (u.heap.size + 1) wr s) ∧ Hid (Whole s.left ∧ s.sp.length ≤ 64 ∧ s.left.length ≤ kx ∧ kx ≤ 65537 ∧ parseL kx s.left s.sp s.dn s.db s.tn s.tb = R))
  case atStart =>
   refine ⟨⟨ol, [], .slice none 0 0, 0, false, 0, false⟩, hid ⟨⟨⟨.slice pa n cp, by go_simp, hTok.out.1.below (by go_grown), fun g hg => by have := hTok.out.2 g hg; omega⟩, ⟨by go_simp, World.ownsRow_nil _ _ _ _⟩, by go_simp, by go_simp, by go_simp, by go_simp, ?_, by omega, by simp⟩, ?_, by go_simp, by go_simp, by go_simp, by go_simp, by go_simp, by go_simp, ?_, ?_, by omega, by go_grown⟩, hid ⟨HW.out, by simp, by rw [HLN.out]; exact Nat.le_refl _, HN.out, HPL.out⟩⟩
   ·intro o ho
    rcases (show o = 0 ∨ o = 1 ∨ o = 2 ∨ o = 3 ∨ o = 4 ∨ o = 5 by omega) with rfl | rfl | rfl | rfl | rfl | rfl <;> go_simp
   ·rw [show u.heap.size + 1 + 1 = ((u.alloc (.cells #[.int .i64 oli, .int .i64 oco] 43)).alloc (.cells #[.slice pa n cp, .slice none 0 0, .int .i64 0, .bool false, .int .i64 0, .bool false] 77)).heap.size by simp]
    exact heap_alloc_new ((u.alloc (.cells #[.int .i64 oli, .int .i64 oco] 43)).alloc (.cells #[.slice pa n cp, .slice none 0 0, .int .i64 0, .bool false, .int .i64 0, .bool false] 77)) _
   ·intro o ho
    rcases (show o = 0 ∨ o = 1 ∨ o = 2 ∨ o = 3 by omega) with rfl | rfl | rfl | rfl <;> go_simp
   ·intro o ho
    rcases (show o = 0 ∨ o = 1 by omega) with rfl | rfl <;> go_simp
  case round =>
   obtain ⟨⟨sl, sp, sv, dn, db, tn, tb⟩, HM, HQ⟩ := hrel
   obtain ⟨v, a1, a2, a3⟩ := HM.out.rd.left
   have hsz2 := HM.out.rd.sz
   have f0 := HM.out.rd.fr 0 (by omega)
   generalize hrb : u.heap.size + 1 = rb at *
   cases sl with
   | nil =>
    obtain ⟨p0, c0, rfl⟩ := a2.form
    clear HN HLN hTok HPL HW
    clear hp_0 hp_1 hp_2 hp_3 fp_0 fp_1 fp_2 fp_3 hq_0 hq_1 fq_0 fq_1 hB hsz
    have hp_0 := HM.out.c0
    have hp_1 := HM.out.c1
    have hp_2 := HM.out.c2
    have hp_3 := HM.out.c3
    have hq_0 := HM.out.d0
    have hq_1 := HM.out.d1
    have fp_0 := HM.out.f0 0 (by omega)
    have fp_1 := HM.out.f0 1 (by omega)
    have fp_2 := HM.out.f0 2 (by omega)
    have fp_3 := HM.out.f0 3 (by omega)
    have fq_0 := HM.out.f1 0 (by omega)
    have fq_1 := HM.out.f1 1 (by omega)
    have hB := HM.out.below
    have hsz := hB.size
    obtain ⟨PP, hPP⟩ : ∃ PP, sortP (polM sp dn tb tn) = PP := ⟨_, rfl⟩
    have HPC := hid (policy_c ⟨[], sp, sv, dn, db, tn, tb⟩ HQ.out.2.1 rb (rb + 2) wr HM.out.rd)
    dsimp only at HPC
    rw [hPP] at HPC
    unfold AnsP at HPC
    have HRP := hid (show R = ⟨0, 0, 0, PP⟩ by
     have := HQ.out.2.2.2.2
     dsimp only at this
     rw [← this, ← hPP, parseL_nil])
    have hlw : w.heap.size + 2 ≤ wr.heap.size := by have := HM.out.lt; omega
    clear hPP
    obtain ⟨ps, pk, pd, pt⟩ := PP
    dsimp only at HPC
    go_wp2_with fail
    ((with_reducible refine (HPC.out).mono ?_); rintro _ y ⟨x1, x2, rfl, hx1, hx2, hy1, hy2, hb⟩)
    have hs_y := hid hb
    have T : CF y w.heap.size 0 (.slice none 0 0) ∧ CF y w.heap.size 1 (.slice none 0 0) ∧ CF y w.heap.size 2 (.int .i64 0) ∧ CF y w.heap.size 3 (.int .i64 0) ∧ CF y (w.heap.size + 1) 0 (.int .i64 0) ∧ CF y (w.heap.size + 1) 1 (.int .i64 0) := by
      refine ⟨⟨?_, ?_⟩, ⟨?_, ?_⟩, ⟨?_, ?_⟩, ⟨?_, ?_⟩, ⟨?_, ?_⟩, ⟨?_, ?_⟩⟩ <;> first | (refine kc hb ?_ <;> (go_simp; first | done | rfl)) | (refine kfz hb ?_ ?_ <;> first | (go_size; done) | (go_simp; done))
    have hz := hb.size
    (try simp only [szA] at hz)
    have L : w.heap.size < y.heap.size ∧ w.heap.size + 1 < y.heap.size := by omega
    have hB' : Below w.heap.size w y := by
      refine kb ?_ hb
      go_grown
    clear hp_0 fp_0 hp_1 fp_1 hp_2 fp_2 hp_3 fp_3 hq_0 fq_0 hq_1 fq_1 hlp hlq hnp0 hnp1 hkp1 hnp2 hkp2 hnq0 hkq1 hB hsz
    clear hb hz
    obtain ⟨⟨hp_0, fp_0⟩, ⟨hp_1, fp_1⟩, ⟨hp_2, fp_2⟩, ⟨hp_3, fp_3⟩, ⟨hq_0, fq_0⟩, ⟨hq_1, fq_1⟩⟩ := T
    obtain ⟨hlp, hlq⟩ := L
    obtain ⟨hnp0, hnp1, hkp1, hnp2, hkp2⟩ := ap0 hlp
    obtain ⟨hnq0, hkq1⟩ := ap1 hlq
    have hB := hB'; clear hB'
    have hsz := hB.size
    obtain ⟨p3, cp3, rfl⟩ := hx1.form
    obtain ⟨p4, cp4, rfl⟩ := hx2.form
    have HX := hid (show HoldsS y _ _ ∧ HoldsS y _ _ ∧ (∀ g, _ → w.heap.size + 2 ≤ g) ∧ (∀ g, _ → w.heap.size + 2 ≤ g) from ⟨hx1, hx2, fun g h => Nat.le_trans hlw (hy1 g h), fun g h => Nat.le_trans hlw (hy2 g h)⟩)
    generalize ps.length = m3 at *
    generalize pk.length = m4 at *
    clear hx1 hx2 hy1 hy2
    go_wp2
    refine bodyPost_ret (v := .tuple #[.agg #[.slice p3 m3 cp3, .slice p4 m4 cp4, .int .i64 pd, .int .i64 pt], .agg #[.int .i64 0, .int .i64 0], .int .i64 0]) (by simp [results, Tryz.results18, go_sem, hp_0, hp_1, hp_2, hp_3, hq_0, hq_1] <;> first | done | rfl) rfl ⟨_, _, by rw [HRP.out], ?_, ?_, (fun g h => Nat.le_trans (by omega) (HX.out.2.2.1 g h)), (fun g h => Nat.le_trans (by omega) (HX.out.2.2.2 g h)), by go_grown⟩
    ·rw [HRP.out]
     (repeat (refine holdsE_set (B := w.heap.size + 2) ?_ HX.out.2.2.1 (by simp) _))
     exact HX.out.1
    ·rw [HRP.out]
     (repeat (refine holdsE_set (B := w.heap.size + 2) ?_ HX.out.2.2.2 (by simp) _))
     exact HX.out.2.1
   | cons word l =>
    rcases a2 with ⟨_, h⟩ | ⟨g, o, cap, rfl, hcap, hc⟩
    ·cases h
    have hgr : g < rb := a3 g rfl
    obtain ⟨t0, t1, t2, t3, t4⟩ := hc 0 word rfl
    rw [Nat.zero_mul, Nat.add_zero] at t0 t1 t2 t3 t4
    have hn : (word :: l).length = l.length + 1 := rfl
    rw [hn] at a1 hcap
    have q := slice_rest g o l.length cap hcap
    have hv' := rest_holds (w := wr) hcap hc
    obtain ⟨v', hv2⟩ : ∃ v', (Value.slice (some (if cap = 1 then ⟨g, o, none⟩ else ⟨g, o + 5, none⟩)) l.length (cap - 1)) = v' := ⟨_, rfl⟩
    have hl' : ∀ g', v'.ownBlock = some g' → g' < rb := fun g' e => by
     rw [← hv2] at e
     by_cases c : cap = 1
     ·rw [if_pos c] at e; cases e; exact hgr
     ·rw [if_neg c] at e; cases e; exact hgr
    rw [hv2] at q hv'
    obtain ⟨p1, cp1, n1, rfl⟩ : ∃ p c n, v' = .slice p n c := ⟨_, _, _, hv2.symm⟩
    have hkx : 1 ≤ gk := by have := HQ.out.2.2.1; dsimp only at this; rw [hn] at this; omega
    obtain ⟨kk, rfl⟩ : ∃ kk, gk = kk + 1 := ⟨gk - 1, by omega⟩
    have HQ2 := hid (show (if (lineM word l sp dn db tn tb).e ≠ 0 then (⟨(lineM word l sp dn db tn tb).e, (lineM word l sp dn db tn tb).li, (lineM word l sp dn db tn tb).co, noPol⟩ : PO)
      else parseL kk (lineM word l sp dn db tn tb).r (lineM word l sp dn db tn tb).sp (lineM word l sp dn db tn tb).dn (lineM word l sp dn db tn tb).db (lineM word l sp dn db tn tb).tn (lineM word l sp dn db tn tb).tb) = R from HQ.out.2.2.2.2)
    have HV := hid (And.intro hv' hl')
    have hws := HM.out.rd.sz
    have hgs : g < wr.heap.size := by omega
    have hrs : rb < wr.heap.size := by omega
    have hN0 := HM.out.lt
    clear HN HLN hTok HPL HW hv2 hv' hl' hc a3
    clear hp_0 hp_1 hp_2 hp_3 fp_0 fp_1 fp_2 fp_3 hq_0 hq_1 fq_0 fq_1 hB hsz
    have hp_0 := HM.out.c0
    have hp_1 := HM.out.c1
    have hp_2 := HM.out.c2
    have hp_3 := HM.out.c3
    have hq_0 := HM.out.d0
    have hq_1 := HM.out.d1
    have fp_0 := HM.out.f0 0 (by omega)
    have fp_1 := HM.out.f0 1 (by omega)
    have fp_2 := HM.out.f0 2 (by omega)
    have fp_3 := HM.out.f0 3 (by omega)
    have fq_0 := HM.out.f1 0 (by omega)
    have fq_1 := HM.out.f1 1 (by omega)
    have hB := HM.out.below
    have hsz := hB.size
    obtain ⟨nn, hnn⟩ : ∃ nn, l.length + 1 = nn := ⟨_, rfl⟩
    rw [hnn] at q a1
    have hpos : (0 : Int) < (nn : Int) := by omega
    have hpos2 : 0 < nn := by omega
    clear hnn hn
    obtain ⟨wk, wt, wn, wl, wc⟩ := word
    dsimp only at t0 t1 t2 t3 t4
    have hlk := look_run (rb + 1) rb wt (wr.alloc (.cells #[.int .i64 wk, .string (txB wt), .int .i64 wn, .int .i64 wl, .int .i64 wc] 81)) (((Below.refl _ wr).alloc (Nat.le_refl _) _).block _ (by omega) |>.trans HM.out.map)
    obtain ⟨WT, hWT⟩ : ∃ WT, txB wt = WT := ⟨_, rfl⟩
    rw [hWT] at hlk t1
    have HWT := hid hWT
    clear hWT
    cases hw4 : word4 wt with
    | none =>
     rw [hw4] at hlk
     dsimp only [Option.isSome] at hlk
     have HRE := hid (show R = ⟨14, wl, wc, noPol⟩ by
      have := HQ2.out
      rw [lineM_no (word := ⟨wk, wt, wn, wl, wc⟩) hw4, if_pos (by simp)] at this
      exact this.symm)
     have hlp : w.heap.size < wr.heap.size := by omega
     have hlq : w.heap.size + 1 < wr.heap.size := by omega
     have hnp : ¬ w.heap.size = wr.heap.size := by omega
     have hnq : ¬ w.heap.size + 1 = wr.heap.size := by omega
     go_wp2_with fail
     refine wp_pin (fun w' => w'.cell? ⟨w.heap.size, 0, none⟩ = some (.slice none 0 0) ∧ w'.frozen? ⟨w.heap.size, 0, none⟩ = false ∧ w'.cell? ⟨w.heap.size, 1, none⟩ = some (.slice none 0 0) ∧ w'.frozen? ⟨w.heap.size, 1, none⟩ = false ∧ w'.cell? ⟨w.heap.size, 2, none⟩ = some (.int .i64 0) ∧ w'.frozen? ⟨w.heap.size, 2, none⟩ = false ∧ w'.cell? ⟨w.heap.size, 3, none⟩ = some (.int .i64 0) ∧ w'.frozen? ⟨w.heap.size, 3, none⟩ = false ∧ w'.cell? ⟨w.heap.size + 1, 0, none⟩ = some (.int .i64 0) ∧ w'.frozen? ⟨w.heap.size + 1, 0, none⟩ = false ∧ w'.cell? ⟨w.heap.size + 1, 1, none⟩ = some (.int .i64 0) ∧ w'.frozen? ⟨w.heap.size + 1, 1, none⟩ = false ∧ w'.cell? ⟨wr.heap.size, 0, none⟩ = some (.int .i64 wk) ∧ w'.cell? ⟨wr.heap.size, 1, none⟩ = some (.string WT) ∧ w'.cell? ⟨wr.heap.size, 2, none⟩ = some (.int .i64 wn) ∧ w'.cell? ⟨wr.heap.size, 3, none⟩ = some (.int .i64 wl) ∧ w'.cell? ⟨wr.heap.size, 4, none⟩ = some (.int .i64 wc) ∧ Below w.heap.size w w') ?_ ?_
     ·(try dsimp only)
      refine ⟨?_, ?_, ?_, ?_, ?_, ?_, ?_, ?_, ?_, ?_, ?_, ?_, ?_, ?_, ?_, ?_, ?_, ?_⟩ <;> first | (go_simp; done) | (simp [*]; done) | go_grown
     intro z T
     (try dsimp only at T)
     clear hp_0 fp_0 hp_1 fp_1 hp_2 fp_2 hp_3 fp_3 hq_0 fq_0 hq_1 fq_1 hlp hlq hnp0 hnp1 hkp1 hnp2 hkp2 hnq0 hkq1 hB hsz
     obtain ⟨hp_0, fp_0, hp_1, fp_1, hp_2, fp_2, hp_3, fp_3, hq_0, fq_0, hq_1, fq_1, hx_0, hx_1, hx_2, hx_3, hx_4, hB⟩ := T
     have hsz := hB.size
     have hlp := klt hp_0
     have hlq := klt hq_0
     have hlx := klt hx_0
     obtain ⟨hnp0, hnp1, hkp1, hnp2, hkp2⟩ := ap0 hlp
     obtain ⟨hnq0, hkq1⟩ := ap1 hlq
     obtain ⟨hnx0, hnx1, hkx1, hnx2, hkx2⟩ := ap0 hlx
     go_region
     all_goals go_wp2
     all_goals refine bodyPost_ret (v := .tuple #[.agg #[.slice none 0 0, .slice none 0 0, .int .i64 0, .int .i64 0], .agg #[.int .i64 wl, .int .i64 wc], .int .i64 14]) (by simp [results, Tryz.results18, go_sem, hp_0, hp_1, hp_2, hp_3, hq_0, hq_1] <;> first | done | rfl) rfl (parseEnd_no HRE.out (by first | go_grown | exact Below.drew (by go_grown)))
    | some f =>
     rw [hw4] at hlk
     dsimp only [Option.isSome, mval] at hlk
     have hfe := word4_enters hw4
     have hwl := HQ.out.2.2.1
     have hgood := Whole.good (x := ⟨wk, wt, wn, wl, wc⟩) HQ.out.1 (word4_ne hw4)
     have PM1 : PMid w w.heap.size rb ((wr.setCell ⟨rb, 0, none⟩ (.slice p1 n1 cp1)).alloc (.cells #[.int .i64 wk, .string WT, .int .i64 wn, .int .i64 wl, .int .i64 wc] 81)) ⟨l, sp, sv, dn, db, tn, tb⟩ := (HM.out.left HV.out.1 HV.out.2).on ((Below.refl _ _).alloc (Nat.le_refl _) _)
     have HC := hid (line_c ⟨wk, wt, wn, wl, wc⟩ f hw4 l sp sv dn tn db tb hgood HQ.out.2.1 rb (rb + 2) _ PM1.rd)
     have HPM := hid PM1
     have HLO := hid (fun h => lineM_ok (word := ⟨wk, wt, wn, wl, wc⟩) (l := l) (sp := sp) (dn := dn) (db := db) (tn := tn) (tb := tb) h HQ.out.2.1)
     unfold tkV at HC
     dsimp only at HC
     rw [HWT.out] at HC
     generalize lineM ⟨wk, wt, wn, wl, wc⟩ l sp dn db tn tb = O at *
     clear hgood PM1 hwl
     go_wp2_with fail
     by_cases hE : O.e = 0
     ·have HE := hid hE
      refine (HC.out.mono (fun e w' h => (show _ ∧ _ from h).2 hE)).mono ?_
      rintro _ y ⟨rfl, ⟨v', hr'⟩, ht⟩
      have HP2 := hid (HPM.out.tur ht hr')
      clear ht hr' hE
      go_wp2
      go_roundg kk
      case measure => omega
      case rel =>
       obtain ⟨⟨pp, hpp, hpn⟩, hol⟩ := HLO.out HE.out
       have h2 := HQ2.out
       rw [if_neg (by rw [HE.out]; simp)] at h2
       have hq := HQ.out
       (try dsimp only at hq)
       refine ⟨_, hid (HP2.out.on (by go_grown)), hid ⟨?_, hol, ?_, by omega, h2⟩⟩
       ·have := hq.1
        rw [hpp] at this
        exact Whole.tail (a := ⟨wk, wt, wn, wl, wc⟩ :: pp) this
       ·have e := congrArg List.length hpp
        rw [List.length_append] at e
        have := hq.2.2.1
        simp only [List.length_cons] at this
        dsimp only
        omega
     ·obtain ⟨oe, hoe⟩ : ∃ E, O.e = E := ⟨_, rfl⟩
      obtain ⟨ol2, hol⟩ : ∃ E, O.li = E := ⟨_, rfl⟩
      obtain ⟨oc2, hoc⟩ : ∃ E, O.co = E := ⟨_, rfl⟩
      have HRE := hid (show R = ⟨oe, ol2, oc2, noPol⟩ by rw [← HQ2.out, if_pos hE, hoe, hol, hoc])
      refine (HC.out.mono (fun e w' h => (show _ ∧ _ from h).1 hE)).mono ?_
      rw [hoe, hol, hoc]
      rw [hoe] at hE
      rintro _ y ⟨rfl, ht⟩
      have HO := HPM.out.out ht
      clear ht hoe hol hoc hp_0 hp_1 hp_2 hp_3 fp_0 fp_1 fp_2 fp_3 hq_0 hq_1 fq_0 fq_1 hB hsz
      have hp_0 := HO.c0
      have hp_1 := HO.c1
      have hp_2 := HO.c2
      have hp_3 := HO.c3
      have hq_0 := HO.d0
      have hq_1 := HO.d1
      have fp_0 := HO.f0 0 (by omega)
      have fp_1 := HO.f0 1 (by omega)
      have fp_2 := HO.f0 2 (by omega)
      have fp_3 := HO.f0 3 (by omega)
      have fq_0 := HO.f1 0 (by omega)
      have fq_1 := HO.f1 1 (by omega)
      have hB := HO.below
      have hsz := hB.size
      clear HO
      have hd : (oe != 0) = true := by simp [bne, hE]
      have hd2 : decide (oe = 0) = false := decide_eq_false hE
      clear hE
      have hlp := klt hp_0
      have hlq := klt hq_0
      have hnp : ¬ w.heap.size = y.heap.size := by omega
      have hnq : ¬ w.heap.size + 1 = y.heap.size := by omega
      go_wp2_with fail
      refine wp_pin (fun w' => w'.cell? ⟨w.heap.size, 0, none⟩ = some (.slice none 0 0) ∧ w'.frozen? ⟨w.heap.size, 0, none⟩ = false ∧ w'.cell? ⟨w.heap.size, 1, none⟩ = some (.slice none 0 0) ∧ w'.frozen? ⟨w.heap.size, 1, none⟩ = false ∧ w'.cell? ⟨w.heap.size, 2, none⟩ = some (.int .i64 0) ∧ w'.frozen? ⟨w.heap.size, 2, none⟩ = false ∧ w'.cell? ⟨w.heap.size, 3, none⟩ = some (.int .i64 0) ∧ w'.frozen? ⟨w.heap.size, 3, none⟩ = false ∧ w'.cell? ⟨w.heap.size + 1, 0, none⟩ = some (.int .i64 0) ∧ w'.frozen? ⟨w.heap.size + 1, 0, none⟩ = false ∧ w'.cell? ⟨w.heap.size + 1, 1, none⟩ = some (.int .i64 0) ∧ w'.frozen? ⟨w.heap.size + 1, 1, none⟩ = false ∧ w'.cell? ⟨y.heap.size, 0, none⟩ = some (.int .i64 ol2) ∧ w'.cell? ⟨y.heap.size, 1, none⟩ = some (.int .i64 oc2) ∧ Below w.heap.size w w') ?_ ?_
      ·(try dsimp only)
       refine ⟨?_, ?_, ?_, ?_, ?_, ?_, ?_, ?_, ?_, ?_, ?_, ?_, ?_, ?_, ?_⟩ <;> first | (go_simp; done) | (simp [*]; done) | go_grown
      intro z T
      (try dsimp only at T)
      clear hp_0 fp_0 hp_1 fp_1 hp_2 fp_2 hp_3 fp_3 hq_0 fq_0 hq_1 fq_1 hlp hlq hnp0 hnp1 hkp1 hnp2 hkp2 hnq0 hkq1 hB hsz
      obtain ⟨hp_0, fp_0, hp_1, fp_1, hp_2, fp_2, hp_3, fp_3, hq_0, fq_0, hq_1, fq_1, hx_0, hx_1, hB⟩ := T
      have hsz := hB.size
      have hlp := klt hp_0
      have hlq := klt hq_0
      have hlx := klt hx_0
      obtain ⟨hnp0, hnp1, hkp1, hnp2, hkp2⟩ := ap0 hlp
      obtain ⟨hnq0, hkq1⟩ := ap1 hlq
      obtain ⟨hnx0, hnx1, hkx1, hnx2, hkx2⟩ := ap0 hlx
      go_region
      all_goals go_wp2
      all_goals refine bodyPost_ret (v := .tuple #[.agg #[.slice none 0 0, .slice none 0 0, .int .i64 0, .int .i64 0], .agg #[.int .i64 ol2, .int .i64 oc2], .int .i64 oe]) (by simp [results, Tryz.results18, go_sem, hp_0, hp_1, hp_2, hp_3, hq_0, hq_1] <;> first | done | rfl) rfl (parseEnd_no HRE.out (by first | go_grown | exact Below.drew (by go_grown)))
 ·have HE := hid he
  have hd : (oe != 0) = true := by simp [bne, he]
  have hd2 : decide (oe = 0) = false := decide_eq_false he
  have HRE := hid (show R = ⟨oe, oli, oco, noPol⟩ by rw [← HR.out, if_pos he])
  clear he HR hTok HOWN HN HW
  go_wp2_with fail
  refine wp_pin (fun w' => w'.cell? ⟨w.heap.size, 0, none⟩ = some (.slice none 0 0) ∧ w'.frozen? ⟨w.heap.size, 0, none⟩ = false ∧ w'.cell? ⟨w.heap.size, 1, none⟩ = some (.slice none 0 0) ∧ w'.frozen? ⟨w.heap.size, 1, none⟩ = false ∧ w'.cell? ⟨w.heap.size, 2, none⟩ = some (.int .i64 0) ∧ w'.frozen? ⟨w.heap.size, 2, none⟩ = false ∧ w'.cell? ⟨w.heap.size, 3, none⟩ = some (.int .i64 0) ∧ w'.frozen? ⟨w.heap.size, 3, none⟩ = false ∧ w'.cell? ⟨w.heap.size + 1, 0, none⟩ = some (.int .i64 0) ∧ w'.frozen? ⟨w.heap.size + 1, 0, none⟩ = false ∧ w'.cell? ⟨w.heap.size + 1, 1, none⟩ = some (.int .i64 0) ∧ w'.frozen? ⟨w.heap.size + 1, 1, none⟩ = false ∧ w'.cell? ⟨u.heap.size, 0, none⟩ = some (.int .i64 oli) ∧ w'.cell? ⟨u.heap.size, 1, none⟩ = some (.int .i64 oco) ∧ Below w.heap.size w w') ?_ ?_
  ·(try dsimp only)
   refine ⟨?_, ?_, ?_, ?_, ?_, ?_, ?_, ?_, ?_, ?_, ?_, ?_, ?_, ?_, ?_⟩ <;> first | (go_simp; done) | (simp [*]; done) | go_grown
  intro z T
  (try dsimp only at T)
  clear hp_0 fp_0 hp_1 fp_1 hp_2 fp_2 hp_3 fp_3 hq_0 fq_0 hq_1 fq_1 hlp hlq hnp0 hnp1 hkp1 hnp2 hkp2 hnq0 hkq1 hB hsz
  obtain ⟨hp_0, fp_0, hp_1, fp_1, hp_2, fp_2, hp_3, fp_3, hq_0, fq_0, hq_1, fq_1, hr_0, hr_1, hB⟩ := T
  have hsz := hB.size
  have hlp := klt hp_0
  have hlq := klt hq_0
  have hlr := klt hr_0
  obtain ⟨hnp0, hnp1, hkp1, hnp2, hkp2⟩ := ap0 hlp
  obtain ⟨hnq0, hkq1⟩ := ap1 hlq
  obtain ⟨hnr0, hnr1, hkr1, hnr2, hkr2⟩ := ap0 hlr
  go_region
  all_goals go_wp2
  all_goals refine bodyPost_ret (v := .tuple #[.agg #[.slice none 0 0, .slice none 0 0, .int .i64 0, .int .i64 0], .agg #[.int .i64 oli, .int .i64 oco], .int .i64 oe]) (by simp [results, Tryz.results18, go_sem, hp_0, hp_1, hp_2, hp_3, hq_0, hq_1] <;> first | done | rfl) rfl (parseEnd_no HRE.out (by first | go_grown | exact Below.drew (by go_grown)))
end Go.Proofs.YtjcmblbnbpikfaaGreatDoor
