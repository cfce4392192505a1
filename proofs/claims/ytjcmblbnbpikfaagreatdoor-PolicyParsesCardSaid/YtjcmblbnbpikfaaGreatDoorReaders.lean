/- Layer 7, the program's -/
import Derived.Test.YtjcmblbnbpikfaaGreatDoorSpanq1
import Derived.Test.YtjcmblbnbpikfaaGreatDoorSpanq2
import Derived.Test.YtjcmblbnbpikfaaGreatDoorSpanq3
import Derived.Test.YtjcmblbnbpikfaaGreatDoorSpanq4
import Derived.Test.YtjcmblbnbpikfaaGreatDoorSettq
set_option linter.unusedSimpArgs false
set_option linter.unusedVariables false
set_option maxRecDepth 100000
namespace Go.Proofs.YtjcmblbnbpikfaaGreatDoor
open Lib (hid)
open Go.RowKit Go.PlainAid

theorem readSpan_c (sink : Bool) (word : Tk) (l : List Tk) (s : St) (hl : s.left = l) (hg : Good l) (hsp : s.sp.length ≤ 64) (rb S0 : Nat) (w : World) (hr : Rd rb S0 w s) :
  Calls Tryz.prog 55 #[.pointer (some ⟨rb, 0, none⟩), tkV word, .bool sink] w (SpanEnd rb S0 w s word sink (spanM l)) := by
 obtain ⟨sl, ssp, sv, sdn, sdb, stn, stb⟩ := s
 obtain ⟨wk, wx, wn, wl, wc⟩ := word
 dsimp only at hl hsp
 subst hl
 obtain ⟨a, r, rfl⟩ := hg.cons
 by_cases h0 : a.k = 2
 ·obtain ⟨b, r2, rfl⟩ := (hg.tail (by omega)).cons
  have hg1 := hg.tail (by omega)
  by_cases h1 : b.k = 3
  ·obtain ⟨c, r3, rfl⟩ := (hg1.tail (by omega)).cons
   have hg2 := hg1.tail (by omega)
   by_cases h2 : c.k = 2
   ·obtain ⟨d, r4, rfl⟩ := (hg2.tail (by omega)).cons
    have hg3 := hg2.tail (by omega)
    by_cases h3 : d.t = bitsL
    ·obtain ⟨m, r5, rfl⟩ := (hg3.tail_bits h3).cons
     have hg4 := hg3.tail_bits h3
     by_cases h4 : m.k = 2
     ·obtain ⟨z, r6, rfl⟩ := (hg4.tail (by omega)).cons
      by_cases h5 : z.k = 4
      ·by_cases h6 : m.n < 1
       ·exact span_L11 _ _ _ _ _ _ _ _ _ _ _ _ _ _ _ _ _ _ _ _ _ _ _ _ _ _ _ _ _ _ _ h0 h1 h2 h3 h4 h5 h6 sink _ _ _ _ _ ssp sv _ _ _ _ hsp rb S0 w hr
       ·by_cases h7 : 255 < m.n
        ·exact span_H11 _ _ _ _ _ _ _ _ _ _ _ _ _ _ _ _ _ _ _ _ _ _ _ _ _ _ _ _ _ _ _ h0 h1 h2 h3 h4 h5 h6 h7 sink _ _ _ _ _ ssp sv _ _ _ _ hsp rb S0 w hr
        ·exact span_A11 _ _ _ _ _ _ _ _ _ _ _ _ _ _ _ _ _ _ _ _ _ _ _ _ _ _ _ _ _ _ _ h0 h1 h2 h3 h4 h5 h6 h7 sink _ _ _ _ _ ssp sv _ _ _ _ hsp rb S0 w hr
      ·exact span_E11 _ _ _ _ _ _ _ _ _ _ _ _ _ _ _ _ _ _ _ _ _ _ _ _ _ _ _ _ _ _ _ h0 h1 h2 h3 h4 h5 sink _ _ _ _ _ ssp sv _ _ _ _ hsp rb S0 w hr
     ·exact span_Q11 _ _ _ _ _ _ _ _ _ _ _ _ _ _ _ _ _ _ _ _ _ _ _ _ _ _ h0 h1 h2 h3 h4 sink _ _ _ _ _ ssp sv _ _ _ _ hsp rb S0 w hr
    ·by_cases h4 : d.k = 4
     ·exact span_A10 _ _ _ _ _ _ _ _ _ _ _ _ _ _ _ _ _ _ _ _ _ h0 h1 h2 h3 h4 sink _ _ _ _ _ ssp sv _ _ _ _ hsp rb S0 w hr
     ·exact span_E10 _ _ _ _ _ _ _ _ _ _ _ _ _ _ _ _ _ _ _ _ _ h0 h1 h2 h3 h4 sink _ _ _ _ _ ssp sv _ _ _ _ hsp rb S0 w hr
   ·exact span_P2 _ _ _ _ _ _ _ _ _ _ _ _ _ _ _ _ h0 h1 h2 sink _ _ _ _ _ ssp sv _ _ _ _ hsp rb S0 w hr
  ·by_cases h2 : b.t = bitsL
   ·obtain ⟨m, r3, rfl⟩ := (hg1.tail_bits h2).cons
    have hg2 := hg1.tail_bits h2
    by_cases h3 : m.k = 2
    ·obtain ⟨z, r4, rfl⟩ := (hg2.tail (by omega)).cons
     by_cases h4 : z.k = 4
     ·by_cases h5 : m.n < 1
      ·exact span_L01 _ _ _ _ _ _ _ _ _ _ _ _ _ _ _ _ _ _ _ _ _ h0 h1 h2 h3 h4 h5 sink _ _ _ _ _ ssp sv _ _ _ _ hsp rb S0 w hr
      ·by_cases h6 : 255 < m.n
       ·exact span_H01 _ _ _ _ _ _ _ _ _ _ _ _ _ _ _ _ _ _ _ _ _ h0 h1 h2 h3 h4 h5 h6 sink _ _ _ _ _ ssp sv _ _ _ _ hsp rb S0 w hr
       ·exact span_A01 _ _ _ _ _ _ _ _ _ _ _ _ _ _ _ _ _ _ _ _ _ h0 h1 h2 h3 h4 h5 h6 sink _ _ _ _ _ ssp sv _ _ _ _ hsp rb S0 w hr
     ·exact span_E01 _ _ _ _ _ _ _ _ _ _ _ _ _ _ _ _ _ _ _ _ _ h0 h1 h2 h3 h4 sink _ _ _ _ _ ssp sv _ _ _ _ hsp rb S0 w hr
    ·exact span_Q01 _ _ _ _ _ _ _ _ _ _ _ _ _ _ _ _ h0 h1 h2 h3 sink _ _ _ _ _ ssp sv _ _ _ _ hsp rb S0 w hr
   ·by_cases h3 : b.k = 4
    ·exact span_A00 _ _ _ _ _ _ _ _ _ _ _ h0 h1 h2 h3 sink _ _ _ _ _ ssp sv _ _ _ _ hsp rb S0 w hr
    ·exact span_E00 _ _ _ _ _ _ _ _ _ _ _ h0 h1 h2 h3 sink _ _ _ _ _ ssp sv _ _ _ _ hsp rb S0 w hr
 ·exact span_P1 _ _ _ _ _ _ h0 sink _ _ _ _ _ ssp sv _ _ _ _ hsp rb S0 w hr
theorem readD_c (word : Tk) (l : List Tk) (ssp : List Mk) (sv : Value) (sdn stn : Int) (sdb stb : Bool) (hg : Good l) (rb S0 : Nat) (w : World) (hr : Rd rb S0 w ⟨l, ssp, sv, sdn, sdb, stn, stb⟩) :
  Calls Tryz.prog 56 #[.pointer (some ⟨rb, 0, none⟩), tkV word, .pointer (some ⟨rb, 2, none⟩), .func (.func 27) #[] #[]] w (SetEnd rb S0 sv w (fun o => ⟨o.r, ssp, sv, o.n, true, stn, stb⟩) (settM sdb mayD word l)) := by
 obtain ⟨wk, wx, wn, wl, wc⟩ := word
 obtain ⟨a, r, rfl⟩ := hg.cons
 by_cases h0 : a.k = 2
 ·obtain ⟨z, r2, rfl⟩ := (hg.tail (by omega)).cons
  by_cases h1 : z.k = 4
  ·cases h2 : sdb
   ·cases h3 : mayD a.n
    ·exact settD_R _ _ _ _ _ _ _ _ _ _ _ _ _ _ _ _ ssp sv _ _ _ _ h0 h1 rfl h3 rb S0 w (by rw [h2] at hr; exact hr)
    ·exact settD_O _ _ _ _ _ _ _ _ _ _ _ _ _ _ _ _ ssp sv _ _ _ _ h0 h1 rfl h3 rb S0 w (by rw [h2] at hr; exact hr)
   ·exact settD_T _ _ _ _ _ _ _ _ _ _ _ _ _ _ _ _ ssp sv _ _ _ _ h0 h1 rfl rb S0 w (by rw [h2] at hr; exact hr)
  ·exact settD_Z _ _ _ _ _ _ _ _ _ _ _ _ _ _ _ _ ssp sv _ _ _ _ h0 h1 rb S0 w hr
 ·exact settD_A _ _ _ _ _ _ _ _ _ _ _ ssp sv _ _ _ _ h0 rb S0 w hr
theorem readT_c (word : Tk) (l : List Tk) (ssp : List Mk) (sv : Value) (sdn stn : Int) (sdb stb : Bool) (hg : Good l) (rb S0 : Nat) (w : World) (hr : Rd rb S0 w ⟨l, ssp, sv, sdn, sdb, stn, stb⟩) :
  Calls Tryz.prog 56 #[.pointer (some ⟨rb, 0, none⟩), tkV word, .pointer (some ⟨rb, 4, none⟩), .func (.func 28) #[] #[]] w (SetEnd rb S0 sv w (fun o => ⟨o.r, ssp, sv, sdn, sdb, o.n, true⟩) (settM stb mayT word l)) := by
 obtain ⟨wk, wx, wn, wl, wc⟩ := word
 obtain ⟨a, r, rfl⟩ := hg.cons
 by_cases h0 : a.k = 2
 ·obtain ⟨z, r2, rfl⟩ := (hg.tail (by omega)).cons
  by_cases h1 : z.k = 4
  ·cases h2 : stb
   ·cases h3 : mayT a.n
    ·exact settT_R _ _ _ _ _ _ _ _ _ _ _ _ _ _ _ _ ssp sv _ _ _ _ h0 h1 rfl h3 rb S0 w (by rw [h2] at hr; exact hr)
    ·exact settT_O _ _ _ _ _ _ _ _ _ _ _ _ _ _ _ _ ssp sv _ _ _ _ h0 h1 rfl h3 rb S0 w (by rw [h2] at hr; exact hr)
   ·exact settT_T _ _ _ _ _ _ _ _ _ _ _ _ _ _ _ _ ssp sv _ _ _ _ h0 h1 rfl rb S0 w (by rw [h2] at hr; exact hr)
  ·exact settT_Z _ _ _ _ _ _ _ _ _ _ _ _ _ _ _ _ ssp sv _ _ _ _ h0 h1 rb S0 w hr
 ·exact settT_A _ _ _ _ _ _ _ _ _ _ _ ssp sv _ _ _ _ h0 rb S0 w hr
theorem SpanEnd.err {rb S0 : Nat} {w w' : World} {s : St} {word : Tk} {sink : Bool} {o : SpO} {e : Ending} (h : SpanEnd rb S0 w s word sink o e w') (h0 : o.e ≠ 0) : e = .returned (.tuple #[.agg #[.int .i64 o.li, .int .i64 o.co], .int .i64 o.e]) ∧ Tur rb S0 s.v w w' := And.left (show _ ∧ _ from h) h0
theorem SpanEnd.ok {rb S0 : Nat} {w w' : World} {s : St} {word : Tk} {sink : Bool} {o : SpO} {e : Ending} (h : SpanEnd rb S0 w s word sink o e w') (h0 : o.e = 0) (h1 : addM ⟨o.x, sink⟩ s.sp = 0) : e = .returned (.tuple #[.agg #[.int .i64 0, .int .i64 0], .int .i64 0]) ∧ (∃ v', Rd rb S0 w' { s with left := o.r, sp := s.sp ++ [⟨o.x, sink⟩], v := v' } ∧ (v'.ownBlock = s.v.ownBlock ∨ ∃ g, v'.ownBlock = some g ∧ w.heap.size ≤ g)) ∧ Tur rb S0 s.v w w' := And.left (And.right (show _ ∧ _ from h)) h0 h1
theorem SpanEnd.no {rb S0 : Nat} {w w' : World} {s : St} {word : Tk} {sink : Bool} {o : SpO} {e : Ending} (h : SpanEnd rb S0 w s word sink o e w') (h0 : o.e = 0) (h1 : addM ⟨o.x, sink⟩ s.sp ≠ 0) : e = .returned (.tuple #[.agg #[.int .i64 (if addM ⟨o.x, sink⟩ s.sp = 10 then o.fl else word.line), .int .i64 (if addM ⟨o.x, sink⟩ s.sp = 10 then o.fc else word.col)], .int .i64 (addM ⟨o.x, sink⟩ s.sp)]) ∧ Tur rb S0 s.v w w' := And.right (And.right (show _ ∧ _ from h)) h0 h1
theorem SetEnd.err {rb S0 : Nat} {v : Value} {w w' : World} {s2 : SeO → St} {o : SeO} {e : Ending} (h : SetEnd rb S0 v w s2 o e w') (h0 : o.e ≠ 0) : e = .returned (.tuple #[.agg #[.int .i64 o.li, .int .i64 o.co], .int .i64 o.e]) ∧ Tur rb S0 v w w' := And.left (show _ ∧ _ from h) h0
theorem SetEnd.ok {rb S0 : Nat} {v : Value} {w w' : World} {s2 : SeO → St} {o : SeO} {e : Ending} (h : SetEnd rb S0 v w s2 o e w') (h0 : o.e = 0) : e = .returned (.tuple #[.agg #[.int .i64 0, .int .i64 0], .int .i64 0]) ∧ Rd rb S0 w' (s2 o) ∧ Tur rb S0 v w w' := And.right (show _ ∧ _ from h) h0
theorem Tur.own2 {rb S0 : Nat} {v : Value} {w u : World} (h : Tur rb S0 v w u) {b o : Nat} {y : Value} (hb : b < w.heap.size) (h1 : b ≠ rb) (h2 : some b ≠ v.ownBlock) (hc : w.cell? ⟨b, o, none⟩ = some y) : u.cell? ⟨b, o, none⟩ = some y := (World.cell?_of_block (h.keep2 b hb h1 h2)).trans hc
theorem Tur.own2f {rb S0 : Nat} {v : Value} {w u : World} (h : Tur rb S0 v w u) {b o : Nat} (hb : b < w.heap.size) (h1 : b ≠ rb) (h2 : some b ≠ v.ownBlock) (hc : w.frozen? ⟨b, o, none⟩ = false) : u.frozen? ⟨b, o, none⟩ = false := (World.frozen?_of_block (a := ⟨b, o, none⟩) (h.keep2 b hb h1 h2)).trans hc
set_option maxHeartbeats 2000000 in
theorem readSecret_c (word : Tk) (l : List Tk) (ssp : List Mk) (sv : Value) (sdn stn : Int) (sdb stb : Bool) (hg : Good l) (hsp : ssp.length ≤ 64) (rb S0 : Nat) (w : World) (hr : Rd rb S0 w ⟨l, ssp, sv, sdn, sdb, stn, stb⟩) :
  Calls Tryz.prog 34 #[.pointer (some ⟨rb, 0, none⟩), tkV word] w (SpanEnd rb S0 w ⟨l, ssp, sv, sdn, sdb, stn, stb⟩ word false (spanM l)) := by
 have hlt := hr.lt
 have hsz0 := hr.sz
 have hkr : rb < w.heap.size := by omega
 have hrw : ¬ rb = w.heap.size := by omega
 have hrw1 : ¬ rb = w.heap.size + 1 := by omega
 have hlow : ∀ g, sv.ownBlock = some g → g < w.heap.size := fun g h => (hr.row.2.lt g h).2
 have hl1 : some (w.heap.size + 1) ≠ sv.ownBlock := fun e => by have := hlow _ e.symm; omega
 have HL1 := hid hl1
 have HLOW := hid hlow
 have HR := hid hr
 have HC := hid (fun W (hb : Below w.heap.size w W) => readSpan_c false word l ⟨l, ssp, sv, sdn, sdb, stn, stb⟩ rfl hg hsp rb S0 W (hr.on hb))
 obtain ⟨O, hO⟩ : ∃ O, spanM l = O := ⟨_, rfl⟩
 rw [hO] at HC ⊢
 clear hr hlow hl1 hO
 obtain ⟨wk, wx, wn, wl, wc⟩ := word
 unfold tkV at HC ⊢
 (try dsimp only at HC)
 (try dsimp only)
 generalize txB wx = wT at *
 go_enter Tryz.func34, Tryz.ntmps34
 go_wp2_with fail
 obtain ⟨W0, hW, hB, hlz, hz_0, fz_0, hz_1, fz_1⟩ : ∃ W0, (w.alloc (.cells #[.int .i64 wk, .string wT, .int .i64 wn, .int .i64 wl, .int .i64 wc] 81)).alloc (.cells #[.int .i64 0, .int .i64 0] 43) = W0 ∧ Below w.heap.size w W0 ∧ w.heap.size + 1 < W0.heap.size ∧ W0.cell? ⟨w.heap.size + 1, 0, none⟩ = some (.int .i64 0) ∧ W0.frozen? ⟨w.heap.size + 1, 0, none⟩ = false ∧ W0.cell? ⟨w.heap.size + 1, 1, none⟩ = some (.int .i64 0) ∧ W0.frozen? ⟨w.heap.size + 1, 1, none⟩ = false := ⟨_, rfl, by go_grown, by simp, by go_simp, by go_simp, by go_simp, by go_simp⟩
 rw [hW]
 clear hW
 have HB := hid hB
 have hzz := hlz
 have HZ := hid (And.intro (And.intro hz_0 fz_0) (And.intro hz_1 fz_1))
 by_cases hE : O.e = 0
 ·obtain ⟨A, hA⟩ : ∃ A, addM ⟨O.x, false⟩ ssp = A := ⟨_, rfl⟩
  have HAA := hid hA
  have HEE := hid hE
  by_cases hA0 : A = 0
  ·(with_reducible refine ((HC.out _ HB.out).mono (fun e w' h => SpanEnd.ok h hE (by rw [hA, hA0]))).mono ?_)
   rintro _ y ⟨rfl, ⟨v', hR', hat⟩, ht⟩
   clear hE hA
   have yz_0 := ht.own2 hzz (fun e => hrw1 e.symm) HL1.out HZ.out.1.1
   have yf_0 := ht.own2f hzz (fun e => hrw1 e.symm) HL1.out HZ.out.1.2
   have yz_1 := ht.own2 hzz (fun e => hrw1 e.symm) HL1.out HZ.out.2.1
   have yf_1 := ht.own2f hzz (fun e => hrw1 e.symm) HL1.out HZ.out.2.2
   have hyz := ht.below.size
   have HTy := hid ((Tur.of_below (v := sv) HB.out hlt hsz0).trans ht)
   clear ht
   have hat' : ∀ g, v'.ownBlock = some g → g ≠ w.heap.size + 1 := fun g e => by
    rcases hat with h | ⟨g', h, hg⟩
    ·have := HLOW.out g (by rw [← e]; exact h.symm)
     omega
    ·rw [h] at e; cases e; omega
   have HAt := hid (show v'.ownBlock = sv.ownBlock ∨ ∃ g, v'.ownBlock = some g ∧ w.heap.size ≤ g from by
    rcases hat with h | ⟨g', h, hg⟩
    ·exact .inl h
    ·exact .inr ⟨g', h, by omega⟩)
   have HRy := hid ((hR'.setn (p := ⟨w.heap.size + 1, 0, none⟩) (by dsimp only; omega) hat' (.int .i64 0)).setn (p := ⟨w.heap.size + 1, 1, none⟩) (by dsimp only; omega) hat' (.int .i64 0))
   clear hR' hat hat'
   go_wp2
   refine bodyPost_ret (v := .tuple #[.agg #[.int .i64 0, .int .i64 0], .int .i64 0]) (by simp [results, Tryz.results34, go_sem, yz_0, yz_1] <;> first | done | rfl) rfl (spanEnd_ok HEE.out rfl rfl (by rw [HAA.out, hA0]) ⟨v', HRy.out, HAt.out⟩ ((HTy.out.setn hlt hsz0 (by dsimp only; omega) _).setn hlt hsz0 (by dsimp only; omega) _))
  ·obtain ⟨L, hL⟩ : ∃ L, (if A = 10 then O.fl else wl) = L := ⟨_, rfl⟩
   obtain ⟨C, hC⟩ : ∃ C, (if A = 10 then O.fc else wc) = C := ⟨_, rfl⟩
   have HLC := hid (And.intro hL hC)
   (with_reducible refine ((HC.out _ HB.out).mono (fun e w' h => (⟨by rw [← hL, ← hC, ← hA]; exact (SpanEnd.no h hE (by rw [hA]; exact hA0)).1, (SpanEnd.no h hE (by rw [hA]; exact hA0)).2⟩ : e = .returned (.tuple #[.agg #[.int .i64 L, .int .i64 C], .int .i64 A]) ∧ _))).mono ?_)
   rintro _ y ⟨rfl, ht⟩
   clear hE hA hL hC
   have yz_0 := ht.own2 hzz (fun e => hrw1 e.symm) HL1.out HZ.out.1.1
   have yf_0 := ht.own2f hzz (fun e => hrw1 e.symm) HL1.out HZ.out.1.2
   have yz_1 := ht.own2 hzz (fun e => hrw1 e.symm) HL1.out HZ.out.2.1
   have yf_1 := ht.own2f hzz (fun e => hrw1 e.symm) HL1.out HZ.out.2.2
   have hyz := ht.below.size
   have HTy := hid ((Tur.of_below (v := sv) HB.out hlt hsz0).trans ht)
   clear ht
   go_wp2
   refine bodyPost_ret (v := .tuple #[.agg #[.int .i64 L, .int .i64 C], .int .i64 A]) (by simp [results, Tryz.results34, go_sem, yz_0, yz_1] <;> first | done | rfl) rfl (spanEnd_no HEE.out rfl HAA.out hA0 HLC.out.1.symm HLC.out.2.symm ((HTy.out.setn hlt hsz0 (by dsimp only; omega) _).setn hlt hsz0 (by dsimp only; omega) _))
 ·obtain ⟨oe, hoe⟩ : ∃ E, O.e = E := ⟨_, rfl⟩
  obtain ⟨ol, hol⟩ : ∃ E, O.li = E := ⟨_, rfl⟩
  obtain ⟨oc, hoc⟩ : ∃ E, O.co = E := ⟨_, rfl⟩
  have HLC := hid (And.intro hoe (And.intro hol hoc))
  (with_reducible refine ((HC.out _ HB.out).mono (fun e w' h => (⟨by rw [← hoe, ← hol, ← hoc]; exact (SpanEnd.err h hE).1, (SpanEnd.err h hE).2⟩ : e = .returned (.tuple #[.agg #[.int .i64 ol, .int .i64 oc], .int .i64 oe]) ∧ _))).mono ?_)
  rintro _ y ⟨rfl, ht⟩
  have hE' : oe ≠ 0 := by rw [← hoe]; exact hE
  clear hE hoe hol hoc
  have yz_0 := ht.own2 hzz (fun e => hrw1 e.symm) HL1.out HZ.out.1.1
  have yf_0 := ht.own2f hzz (fun e => hrw1 e.symm) HL1.out HZ.out.1.2
  have yz_1 := ht.own2 hzz (fun e => hrw1 e.symm) HL1.out HZ.out.2.1
  have yf_1 := ht.own2f hzz (fun e => hrw1 e.symm) HL1.out HZ.out.2.2
  have hyz := ht.below.size
  have HTy := hid ((Tur.of_below (v := sv) HB.out hlt hsz0).trans ht)
  clear ht
  go_wp2
  refine bodyPost_ret (v := .tuple #[.agg #[.int .i64 ol, .int .i64 oc], .int .i64 oe]) (by simp [results, Tryz.results34, go_sem, yz_0, yz_1] <;> first | done | rfl) rfl (spanEnd_err HLC.out.1 HLC.out.2.1 HLC.out.2.2 hE' ((HTy.out.setn hlt hsz0 (by dsimp only; omega) _).setn hlt hsz0 (by dsimp only; omega) _))
set_option maxHeartbeats 2000000 in
theorem readSink_c (word : Tk) (l : List Tk) (ssp : List Mk) (sv : Value) (sdn stn : Int) (sdb stb : Bool) (hg : Good l) (hsp : ssp.length ≤ 64) (rb S0 : Nat) (w : World) (hr : Rd rb S0 w ⟨l, ssp, sv, sdn, sdb, stn, stb⟩) :
  Calls Tryz.prog 35 #[.pointer (some ⟨rb, 0, none⟩), tkV word] w (SpanEnd rb S0 w ⟨l, ssp, sv, sdn, sdb, stn, stb⟩ word true (spanM l)) := by
 have hlt := hr.lt
 have hsz0 := hr.sz
 have hkr : rb < w.heap.size := by omega
 have hrw : ¬ rb = w.heap.size := by omega
 have hrw1 : ¬ rb = w.heap.size + 1 := by omega
 have hlow : ∀ g, sv.ownBlock = some g → g < w.heap.size := fun g h => (hr.row.2.lt g h).2
 have hl1 : some (w.heap.size + 1) ≠ sv.ownBlock := fun e => by have := hlow _ e.symm; omega
 have HL1 := hid hl1
 have HLOW := hid hlow
 have HR := hid hr
 have HC := hid (fun W (hb : Below w.heap.size w W) => readSpan_c true word l ⟨l, ssp, sv, sdn, sdb, stn, stb⟩ rfl hg hsp rb S0 W (hr.on hb))
 obtain ⟨O, hO⟩ : ∃ O, spanM l = O := ⟨_, rfl⟩
 rw [hO] at HC ⊢
 clear hr hlow hl1 hO
 obtain ⟨wk, wx, wn, wl, wc⟩ := word
 unfold tkV at HC ⊢
 (try dsimp only at HC)
 (try dsimp only)
 generalize txB wx = wT at *
 go_enter Tryz.func35, Tryz.ntmps35
 go_wp2_with fail
 obtain ⟨W0, hW, hB, hlz, hz_0, fz_0, hz_1, fz_1⟩ : ∃ W0, (w.alloc (.cells #[.int .i64 wk, .string wT, .int .i64 wn, .int .i64 wl, .int .i64 wc] 81)).alloc (.cells #[.int .i64 0, .int .i64 0] 43) = W0 ∧ Below w.heap.size w W0 ∧ w.heap.size + 1 < W0.heap.size ∧ W0.cell? ⟨w.heap.size + 1, 0, none⟩ = some (.int .i64 0) ∧ W0.frozen? ⟨w.heap.size + 1, 0, none⟩ = false ∧ W0.cell? ⟨w.heap.size + 1, 1, none⟩ = some (.int .i64 0) ∧ W0.frozen? ⟨w.heap.size + 1, 1, none⟩ = false := ⟨_, rfl, by go_grown, by simp, by go_simp, by go_simp, by go_simp, by go_simp⟩
 rw [hW]
 clear hW
 have HB := hid hB
 have hzz := hlz
 have HZ := hid (And.intro (And.intro hz_0 fz_0) (And.intro hz_1 fz_1))
 by_cases hE : O.e = 0
 ·obtain ⟨A, hA⟩ : ∃ A, addM ⟨O.x, true⟩ ssp = A := ⟨_, rfl⟩
  have HAA := hid hA
  have HEE := hid hE
  by_cases hA0 : A = 0
  ·(with_reducible refine ((HC.out _ HB.out).mono (fun e w' h => SpanEnd.ok h hE (by rw [hA, hA0]))).mono ?_)
   rintro _ y ⟨rfl, ⟨v', hR', hat⟩, ht⟩
   clear hE hA
   have yz_0 := ht.own2 hzz (fun e => hrw1 e.symm) HL1.out HZ.out.1.1
   have yf_0 := ht.own2f hzz (fun e => hrw1 e.symm) HL1.out HZ.out.1.2
   have yz_1 := ht.own2 hzz (fun e => hrw1 e.symm) HL1.out HZ.out.2.1
   have yf_1 := ht.own2f hzz (fun e => hrw1 e.symm) HL1.out HZ.out.2.2
   have hyz := ht.below.size
   have HTy := hid ((Tur.of_below (v := sv) HB.out hlt hsz0).trans ht)
   clear ht
   have hat' : ∀ g, v'.ownBlock = some g → g ≠ w.heap.size + 1 := fun g e => by
    rcases hat with h | ⟨g', h, hg⟩
    ·have := HLOW.out g (by rw [← e]; exact h.symm)
     omega
    ·rw [h] at e; cases e; omega
   have HAt := hid (show v'.ownBlock = sv.ownBlock ∨ ∃ g, v'.ownBlock = some g ∧ w.heap.size ≤ g from by
    rcases hat with h | ⟨g', h, hg⟩
    ·exact .inl h
    ·exact .inr ⟨g', h, by omega⟩)
   have HRy := hid ((hR'.setn (p := ⟨w.heap.size + 1, 0, none⟩) (by dsimp only; omega) hat' (.int .i64 0)).setn (p := ⟨w.heap.size + 1, 1, none⟩) (by dsimp only; omega) hat' (.int .i64 0))
   clear hR' hat hat'
   go_wp2
   refine bodyPost_ret (v := .tuple #[.agg #[.int .i64 0, .int .i64 0], .int .i64 0]) (by simp [results, Tryz.results35, go_sem, yz_0, yz_1] <;> first | done | rfl) rfl (spanEnd_ok HEE.out rfl rfl (by rw [HAA.out, hA0]) ⟨v', HRy.out, HAt.out⟩ ((HTy.out.setn hlt hsz0 (by dsimp only; omega) _).setn hlt hsz0 (by dsimp only; omega) _))
  ·obtain ⟨L, hL⟩ : ∃ L, (if A = 10 then O.fl else wl) = L := ⟨_, rfl⟩
   obtain ⟨C, hC⟩ : ∃ C, (if A = 10 then O.fc else wc) = C := ⟨_, rfl⟩
   have HLC := hid (And.intro hL hC)
   (with_reducible refine ((HC.out _ HB.out).mono (fun e w' h => (⟨by rw [← hL, ← hC, ← hA]; exact (SpanEnd.no h hE (by rw [hA]; exact hA0)).1, (SpanEnd.no h hE (by rw [hA]; exact hA0)).2⟩ : e = .returned (.tuple #[.agg #[.int .i64 L, .int .i64 C], .int .i64 A]) ∧ _))).mono ?_)
   rintro _ y ⟨rfl, ht⟩
   clear hE hA hL hC
   have yz_0 := ht.own2 hzz (fun e => hrw1 e.symm) HL1.out HZ.out.1.1
   have yf_0 := ht.own2f hzz (fun e => hrw1 e.symm) HL1.out HZ.out.1.2
   have yz_1 := ht.own2 hzz (fun e => hrw1 e.symm) HL1.out HZ.out.2.1
   have yf_1 := ht.own2f hzz (fun e => hrw1 e.symm) HL1.out HZ.out.2.2
   have hyz := ht.below.size
   have HTy := hid ((Tur.of_below (v := sv) HB.out hlt hsz0).trans ht)
   clear ht
   go_wp2
   refine bodyPost_ret (v := .tuple #[.agg #[.int .i64 L, .int .i64 C], .int .i64 A]) (by simp [results, Tryz.results35, go_sem, yz_0, yz_1] <;> first | done | rfl) rfl (spanEnd_no HEE.out rfl HAA.out hA0 HLC.out.1.symm HLC.out.2.symm ((HTy.out.setn hlt hsz0 (by dsimp only; omega) _).setn hlt hsz0 (by dsimp only; omega) _))
 ·obtain ⟨oe, hoe⟩ : ∃ E, O.e = E := ⟨_, rfl⟩
  obtain ⟨ol, hol⟩ : ∃ E, O.li = E := ⟨_, rfl⟩
  obtain ⟨oc, hoc⟩ : ∃ E, O.co = E := ⟨_, rfl⟩
  have HLC := hid (And.intro hoe (And.intro hol hoc))
  (with_reducible refine ((HC.out _ HB.out).mono (fun e w' h => (⟨by rw [← hoe, ← hol, ← hoc]; exact (SpanEnd.err h hE).1, (SpanEnd.err h hE).2⟩ : e = .returned (.tuple #[.agg #[.int .i64 ol, .int .i64 oc], .int .i64 oe]) ∧ _))).mono ?_)
  rintro _ y ⟨rfl, ht⟩
  have hE' : oe ≠ 0 := by rw [← hoe]; exact hE
  clear hE hoe hol hoc
  have yz_0 := ht.own2 hzz (fun e => hrw1 e.symm) HL1.out HZ.out.1.1
  have yf_0 := ht.own2f hzz (fun e => hrw1 e.symm) HL1.out HZ.out.1.2
  have yz_1 := ht.own2 hzz (fun e => hrw1 e.symm) HL1.out HZ.out.2.1
  have yf_1 := ht.own2f hzz (fun e => hrw1 e.symm) HL1.out HZ.out.2.2
  have hyz := ht.below.size
  have HTy := hid ((Tur.of_below (v := sv) HB.out hlt hsz0).trans ht)
  clear ht
  go_wp2
  refine bodyPost_ret (v := .tuple #[.agg #[.int .i64 ol, .int .i64 oc], .int .i64 oe]) (by simp [results, Tryz.results35, go_sem, yz_0, yz_1] <;> first | done | rfl) rfl (spanEnd_err HLC.out.1 HLC.out.2.1 HLC.out.2.2 hE' ((HTy.out.setn hlt hsz0 (by dsimp only; omega) _).setn hlt hsz0 (by dsimp only; omega) _))
set_option maxHeartbeats 2000000 in
theorem readDeclassify_c (word : Tk) (l : List Tk) (ssp : List Mk) (sv : Value) (sdn stn : Int) (sdb stb : Bool) (hg : Good l) (hsp : ssp.length ≤ 64) (rb S0 : Nat) (w : World) (hr : Rd rb S0 w ⟨l, ssp, sv, sdn, sdb, stn, stb⟩) :
  Calls Tryz.prog 36 #[.pointer (some ⟨rb, 0, none⟩), tkV word] w (SetEnd rb S0 sv w (fun o => ⟨o.r, ssp, sv, o.n, true, stn, stb⟩) (settM sdb mayD word l)) := by
 have hlt := hr.lt
 have hsz0 := hr.sz
 have hkr : rb < w.heap.size := by omega
 have hrw : ¬ rb = w.heap.size := by omega
 have hrw1 : ¬ rb = w.heap.size + 1 := by omega
 have hlow : ∀ g, sv.ownBlock = some g → g < w.heap.size := fun g h => (hr.row.2.lt g h).2
 have hl1 : some (w.heap.size + 1) ≠ sv.ownBlock := fun e => by have := hlow _ e.symm; omega
 have HL1 := hid hl1
 have HLOW := hid hlow
 have HR := hid hr
 have HC := hid (fun W (hb : Below w.heap.size w W) => readD_c word l ssp sv sdn stn sdb stb hg rb S0 W (hr.on hb))
 obtain ⟨O, hO⟩ : ∃ O, settM sdb mayD word l = O := ⟨_, rfl⟩
 rw [hO] at HC ⊢
 clear hr hlow hl1 hO
 obtain ⟨wk, wx, wn, wl, wc⟩ := word
 unfold tkV at HC ⊢
 (try dsimp only at HC)
 (try dsimp only)
 generalize txB wx = wT at *
 go_enter Tryz.func36, Tryz.ntmps36
 go_wp2_with fail
 by_cases hE : O.e = 0
 ·have HEE := hid hE
  go_region_with (go_at_call 56; (with_reducible refine ((HC.out _ (by go_grown)).mono (fun e w' h => SetEnd.ok h hE)).mono ?_); rintro _ y ⟨rfl, hR', ht⟩; have yz_0 : y.cell? ⟨w.heap.size + 1, 0, none⟩ = some (.int .i64 0) := ht.own2 (by simp) (fun e => hrw1 e.symm) HL1.out (by go_simp); have yf_0 : y.frozen? ⟨w.heap.size + 1, 0, none⟩ = false := ht.own2f (by simp) (fun e => hrw1 e.symm) HL1.out (by go_simp); have yz_1 : y.cell? ⟨w.heap.size + 1, 1, none⟩ = some (.int .i64 0) := ht.own2 (by simp) (fun e => hrw1 e.symm) HL1.out (by go_simp); have yf_1 : y.frozen? ⟨w.heap.size + 1, 1, none⟩ = false := ht.own2f (by simp) (fun e => hrw1 e.symm) HL1.out (by go_simp); have hyz := ht.below.size; (try simp only [World.size_alloc, World.size_drew] at hyz); have HTy := hid ((Tur.of_below (v := sv) (show Below w.heap.size w _ by go_grown) hlt hsz0).trans ht); clear ht)
  clear hE
  have HRy := hid ((hR'.setl (p := ⟨w.heap.size + 1, 0, none⟩) HLOW hkr (by dsimp only; omega) (.int .i64 0)).setl (p := ⟨w.heap.size + 1, 1, none⟩) HLOW hkr (by dsimp only; omega) (.int .i64 0))
  clear hR'
  go_wp2
  refine bodyPost_ret (v := .tuple #[.agg #[.int .i64 0, .int .i64 0], .int .i64 0]) (by simp [results, Tryz.results36, go_sem, yz_0, yz_1] <;> first | done | rfl) rfl (setEnd_ok HEE.out HRy.out ((HTy.out.setn hlt hsz0 (by dsimp only; omega) _).setn hlt hsz0 (by dsimp only; omega) _))
 ·obtain ⟨oe, hoe⟩ : ∃ E, O.e = E := ⟨_, rfl⟩
  obtain ⟨ol, hol⟩ : ∃ E, O.li = E := ⟨_, rfl⟩
  obtain ⟨oc, hoc⟩ : ∃ E, O.co = E := ⟨_, rfl⟩
  have HLC := hid (And.intro hoe (And.intro hol hoc))
  have HC2 := hid (fun W (hb : Below w.heap.size w W) => (HC.out W hb).mono (fun e w' h => (⟨by rw [← hoe, ← hol, ← hoc]; exact (SetEnd.err h hE).1, (SetEnd.err h hE).2⟩ : e = .returned (.tuple #[.agg #[.int .i64 ol, .int .i64 oc], .int .i64 oe]) ∧ Tur rb S0 sv W w')))
  go_region_with (go_at_call 56; (with_reducible refine (HC2.out _ (by go_grown)).mono ?_); rintro _ y ⟨rfl, ht⟩; have yz_0 : y.cell? ⟨w.heap.size + 1, 0, none⟩ = some (.int .i64 0) := ht.own2 (by simp) (fun e => hrw1 e.symm) HL1.out (by go_simp); have yf_0 : y.frozen? ⟨w.heap.size + 1, 0, none⟩ = false := ht.own2f (by simp) (fun e => hrw1 e.symm) HL1.out (by go_simp); have yz_1 : y.cell? ⟨w.heap.size + 1, 1, none⟩ = some (.int .i64 0) := ht.own2 (by simp) (fun e => hrw1 e.symm) HL1.out (by go_simp); have yf_1 : y.frozen? ⟨w.heap.size + 1, 1, none⟩ = false := ht.own2f (by simp) (fun e => hrw1 e.symm) HL1.out (by go_simp); have hyz := ht.below.size; (try simp only [World.size_alloc, World.size_drew] at hyz); have HTy := hid ((Tur.of_below (v := sv) (show Below w.heap.size w _ by go_grown) hlt hsz0).trans ht); clear ht)
  have hE' : oe ≠ 0 := by rw [← hoe]; exact hE
  clear hE hoe hol hoc
  go_wp2
  refine bodyPost_ret (v := .tuple #[.agg #[.int .i64 ol, .int .i64 oc], .int .i64 oe]) (by simp [results, Tryz.results36, go_sem, yz_0, yz_1] <;> first | done | rfl) rfl (setEnd_err HLC.out.1 HLC.out.2.1 HLC.out.2.2 hE' ((HTy.out.setn hlt hsz0 (by dsimp only; omega) _).setn hlt hsz0 (by dsimp only; omega) _))
set_option maxHeartbeats 2000000 in
theorem readTrace_c (word : Tk) (l : List Tk) (ssp : List Mk) (sv : Value) (sdn stn : Int) (sdb stb : Bool) (hg : Good l) (hsp : ssp.length ≤ 64) (rb S0 : Nat) (w : World) (hr : Rd rb S0 w ⟨l, ssp, sv, sdn, sdb, stn, stb⟩) :
  Calls Tryz.prog 37 #[.pointer (some ⟨rb, 0, none⟩), tkV word] w (SetEnd rb S0 sv w (fun o => ⟨o.r, ssp, sv, sdn, sdb, o.n, true⟩) (settM stb mayT word l)) := by
 have hlt := hr.lt
 have hsz0 := hr.sz
 have hkr : rb < w.heap.size := by omega
 have hrw : ¬ rb = w.heap.size := by omega
 have hrw1 : ¬ rb = w.heap.size + 1 := by omega
 have hlow : ∀ g, sv.ownBlock = some g → g < w.heap.size := fun g h => (hr.row.2.lt g h).2
 have hl1 : some (w.heap.size + 1) ≠ sv.ownBlock := fun e => by have := hlow _ e.symm; omega
 have HL1 := hid hl1
 have HLOW := hid hlow
 have HR := hid hr
 have HC := hid (fun W (hb : Below w.heap.size w W) => readT_c word l ssp sv sdn stn sdb stb hg rb S0 W (hr.on hb))
 obtain ⟨O, hO⟩ : ∃ O, settM stb mayT word l = O := ⟨_, rfl⟩
 rw [hO] at HC ⊢
 clear hr hlow hl1 hO
 obtain ⟨wk, wx, wn, wl, wc⟩ := word
 unfold tkV at HC ⊢
 (try dsimp only at HC)
 (try dsimp only)
 generalize txB wx = wT at *
 go_enter Tryz.func37, Tryz.ntmps37
 go_wp2_with fail
 by_cases hE : O.e = 0
 ·have HEE := hid hE
  go_region_with (go_at_call 56; (with_reducible refine ((HC.out _ (by go_grown)).mono (fun e w' h => SetEnd.ok h hE)).mono ?_); rintro _ y ⟨rfl, hR', ht⟩; have yz_0 : y.cell? ⟨w.heap.size + 1, 0, none⟩ = some (.int .i64 0) := ht.own2 (by simp) (fun e => hrw1 e.symm) HL1.out (by go_simp); have yf_0 : y.frozen? ⟨w.heap.size + 1, 0, none⟩ = false := ht.own2f (by simp) (fun e => hrw1 e.symm) HL1.out (by go_simp); have yz_1 : y.cell? ⟨w.heap.size + 1, 1, none⟩ = some (.int .i64 0) := ht.own2 (by simp) (fun e => hrw1 e.symm) HL1.out (by go_simp); have yf_1 : y.frozen? ⟨w.heap.size + 1, 1, none⟩ = false := ht.own2f (by simp) (fun e => hrw1 e.symm) HL1.out (by go_simp); have hyz := ht.below.size; (try simp only [World.size_alloc, World.size_drew] at hyz); have HTy := hid ((Tur.of_below (v := sv) (show Below w.heap.size w _ by go_grown) hlt hsz0).trans ht); clear ht)
  clear hE
  have HRy := hid ((hR'.setl (p := ⟨w.heap.size + 1, 0, none⟩) HLOW hkr (by dsimp only; omega) (.int .i64 0)).setl (p := ⟨w.heap.size + 1, 1, none⟩) HLOW hkr (by dsimp only; omega) (.int .i64 0))
  clear hR'
  go_wp2
  refine bodyPost_ret (v := .tuple #[.agg #[.int .i64 0, .int .i64 0], .int .i64 0]) (by simp [results, Tryz.results37, go_sem, yz_0, yz_1] <;> first | done | rfl) rfl (setEnd_ok HEE.out HRy.out ((HTy.out.setn hlt hsz0 (by dsimp only; omega) _).setn hlt hsz0 (by dsimp only; omega) _))
 ·obtain ⟨oe, hoe⟩ : ∃ E, O.e = E := ⟨_, rfl⟩
  obtain ⟨ol, hol⟩ : ∃ E, O.li = E := ⟨_, rfl⟩
  obtain ⟨oc, hoc⟩ : ∃ E, O.co = E := ⟨_, rfl⟩
  have HLC := hid (And.intro hoe (And.intro hol hoc))
  have HC2 := hid (fun W (hb : Below w.heap.size w W) => (HC.out W hb).mono (fun e w' h => (⟨by rw [← hoe, ← hol, ← hoc]; exact (SetEnd.err h hE).1, (SetEnd.err h hE).2⟩ : e = .returned (.tuple #[.agg #[.int .i64 ol, .int .i64 oc], .int .i64 oe]) ∧ Tur rb S0 sv W w')))
  go_region_with (go_at_call 56; (with_reducible refine (HC2.out _ (by go_grown)).mono ?_); rintro _ y ⟨rfl, ht⟩; have yz_0 : y.cell? ⟨w.heap.size + 1, 0, none⟩ = some (.int .i64 0) := ht.own2 (by simp) (fun e => hrw1 e.symm) HL1.out (by go_simp); have yf_0 : y.frozen? ⟨w.heap.size + 1, 0, none⟩ = false := ht.own2f (by simp) (fun e => hrw1 e.symm) HL1.out (by go_simp); have yz_1 : y.cell? ⟨w.heap.size + 1, 1, none⟩ = some (.int .i64 0) := ht.own2 (by simp) (fun e => hrw1 e.symm) HL1.out (by go_simp); have yf_1 : y.frozen? ⟨w.heap.size + 1, 1, none⟩ = false := ht.own2f (by simp) (fun e => hrw1 e.symm) HL1.out (by go_simp); have hyz := ht.below.size; (try simp only [World.size_alloc, World.size_drew] at hyz); have HTy := hid ((Tur.of_below (v := sv) (show Below w.heap.size w _ by go_grown) hlt hsz0).trans ht); clear ht)
  have hE' : oe ≠ 0 := by rw [← hoe]; exact hE
  clear hE hoe hol hoc
  go_wp2
  refine bodyPost_ret (v := .tuple #[.agg #[.int .i64 ol, .int .i64 oc], .int .i64 oe]) (by simp [results, Tryz.results37, go_sem, yz_0, yz_1] <;> first | done | rfl) rfl (setEnd_err HLC.out.1 HLC.out.2.1 HLC.out.2.2 hE' ((HTy.out.setn hlt hsz0 (by dsimp only; omega) _).setn hlt hsz0 (by dsimp only; omega) _))
end Go.Proofs.YtjcmblbnbpikfaaGreatDoor
