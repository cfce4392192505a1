/-
  LexerTexts returns true: the walk.
-/
import Derived.Test.YtbnmibkmddhniaaDoorJoinq
import Derived.Test.YtbnmibkmddhniaaDoorTextr
import Derived.Test.YtbnmibkmddhniaaDoorLawKit
set_option linter.unusedSimpArgs false
set_option linter.unusedVariables false
namespace Go.Proofs.YtbnmibkmddhniaaDoor
open Go.RowKit Go.PlainAid

set_option maxRecDepth 100000 in
set_option maxHeartbeats 1000000 in
theorem texts_out (p : Option Addr) (L c : Nat) (h : 30 < L) (w : World) : Calls Tryd.prog 4 #[.slice p L c] w (LawEnd w) := by
  have d1 : decide ((30 : Int) < (L : Int)) = true := decide_eq_true (by omega)
  have HA := Lib.hid awake_c
  go_enter Tryd.func4, Tryd.ntmps4
  go_wp2_with fail
  ((with_reducible refine (HA.out _).mono ?_); rintro _ u ⟨rfl, hb⟩)
  have hz := hb.size
  (try simp only [World.size_alloc, World.size_setCell, World.size_drew] at hz)
  have hB' : Below w.heap.size w u := by
      refine kb ?_ hb
      go_grown
  clear hb hz
  have hB := hB'; clear hB'
  have hsz := hB.size
  go_wp2
  go_ret
  exact ⟨rfl, by go_grown⟩
theorem joinR_fin (l : List Tk) (k : Nat) (p : Option Int) (acc : List UInt8) (h : l.length ≤ k) : joinR (l.drop k) p acc = (acc, 0) := by
  rw [List.drop_eq_nil_of_le h]; rfl
set_option maxRecDepth 100000 in
set_option maxHeartbeats 8000000 in
theorem texts_in (l : List Tk) (hl : l.length ≤ 30) (v : Value) (w : World) (hv : HoldsT w v l) (hT : w.cell? ⟨5, 15, none⟩ = some (.int .u8 4)) : Calls Tryd.prog 4 #[v] w (LawEnd w) := by
  obtain ⟨p, c, rfl⟩ := hv.form
  have d1 : decide ((30 : Int) < (l.length : Int)) = false := decide_eq_false (by omega)
  have d1' : ¬ 30 < l.length := by omega
  have HA := Lib.hid awake_c
  obtain ⟨R, hR⟩ : ∃ R, joinR l none [] = R := ⟨_, rfl⟩
  have HR := Lib.hid hR
  have HJ := Lib.hid (fun ht W hv hT => joinp_c l hl ht (.slice p l.length c) W hv hT)
  rw [hR] at HJ
  have HV := Lib.hid hv
  have HL := Lib.hid hl
  clear hR hv hl
  go_enter Tryd.func4, Tryd.ntmps4
  go_wp2
  go_loopw [3, 4, 5] (fun a b i wr => ∃ (k : Nat) (X : ByteArray) (E : Int), a = .string X ∧ b = .int .i64 E ∧ i = .int .i64 (k : Int) ∧ Hid (k ≤ l.length ∧ (∀ x ∈ l.take k, x.t.length ≤ 100) ∧ X.size ≤ 101 * k ∧ ((E = 0 ∧ ∃ acc, X = txB acc ∧ joinR (l.drop k) (prevK l k) acc = R) ∨ (E ≠ 0 ∧ R = ([], E)))) ∧ Below w.heap.size w wr) (fun a b i _ => l.length - (intOf i).toNat)
  case atStart => exact ⟨0, ⟨#[]⟩, 0, rfl, rfl, rfl, Lib.hid ⟨by omega, by simp, Nat.le_refl 0, .inl ⟨rfl, [], rfl, by rw [List.drop_zero]; exact HR.out⟩⟩, Below.refl _ _⟩
  case round =>
    obtain ⟨k, X, E, rfl, rfl, rfl, HQ, hB⟩ := hrel
    obtain ⟨q1, q2, q3, q4⟩ := HQ.out
    have hl := HL.out
    by_cases hlt : k < l.length
    · have hd : decide ((k : Int) < (l.length : Int)) = true := decide_eq_true (by omega)
      have hin : (0 : Int) ≤ (k : Int) ∧ (k : Int) < (l.length : Int) := by omega
      have hx := List.getElem?_eq_getElem hlt
      have hpk := prevK_next l k _ hx
      have hTr := kc hB hT
      have hsw : w.heap.size ≤ wr.heap.size := hB.size
      rcases (HV.out.below hB) with ⟨_, hh⟩ | ⟨g, o, cap, e1, hc, h1⟩
      · rw [hh] at hlt; exact absurd hlt (by simp)
      cases e1
      obtain ⟨a0, a1, a2, a3, a4⟩ := h1 k _ hx
      have hprev : (k = 0 ∧ prevK l k = none) ∨ (∃ y, 1 ≤ k ∧ prevK l k = some y ∧ wr.cell? ⟨g, o + (k - 1) * 5, none⟩ = some (.int .i64 y)) := by
        by_cases hk0 : k = 0
        · left; exact ⟨hk0, by unfold prevK; rw [if_pos hk0]⟩
        · right
          have hy : l[k - 1]? = some l[k - 1] := List.getElem?_eq_getElem (by omega)
          refine ⟨l[k - 1].k, by omega, ?_, (h1 (k - 1) _ hy).1⟩
          unfold prevK
          rw [if_neg hk0, hy]
          rfl
      have htk : l.take (k + 1) = l.take k ++ [l[k]] := List.take_succ_eq_append_getElem hlt
      have hdk : l.drop k = l[k] :: l.drop (k + 1) := List.drop_eq_getElem_cons hlt
      clear h1 hx
      have hw1 : IntKind.i64.wrap ((k : Int) + 1) = (k : Int) + 1 := IntWalk.i64_in _ (by omega)
      generalize l[k] = x at *
      have hz := txB_size x.t
      have hlg := klt a0
      have HB := Lib.hid hB
      have hbr : Below wr.heap.size wr wr := Below.refl _ _
      by_cases hbig : 100 < x.t.length
      · have c1 : decide ((100 : Int) < ((txB x.t).size : Int)) = true := decide_eq_true (by omega)
        generalize txB x.t = XT at *
        clear q1 q2 q3 q4 hl HQ hprev htk hdk hz hbig hpk
        go_wp2_with fail
        refine (HA.out _).mono ?_
        rintro _ y4 ⟨rfl, hb⟩
        go_wp2
        go_ret
        exact ⟨rfl, kb hB hb⟩
      · have c1 : decide ((100 : Int) < ((txB x.t).size : Int)) = false := decide_eq_false (by omega)
        have HP := Lib.hid (fun W h => textp_c x.k x.t x.n x.line x.col (by omega) W h)
        have HD := Lib.hid (fun W => textr_c x.k x.t x.n x.line x.col (by omega) W)
        have htl := textL_len x.k x.t x.n (by omega)
        obtain ⟨TE, hTE⟩ : ∃ TE, textE x.k x.t x.n = TE := ⟨_, rfl⟩
        obtain ⟨TL, hTL⟩ : ∃ TL, textL x.k x.t x.n = TL := ⟨_, rfl⟩
        have htk2 : ∀ z ∈ l.take (k + 1), z.t.length ≤ 100 := fun z hz => by
          rw [htk] at hz
          rcases List.mem_append.1 hz with h | h
          · exact q2 z h
          · obtain rfl : z = x := by simpa using h
            omega
        rw [hTE, hTL] at HP HD
        rw [hTL] at htl
        have heq : ((txB TL).toList == (txB TL).toList) = true := by simp
        have HJ1 := Lib.hid (show k < l.length ∧ k ≤ 30 from ⟨hlt, by omega⟩)
        have hTL2 := hTL
        have hTE2 := hTE
        obtain ⟨xk, xt, xn, xl, xc⟩ := x
        dsimp only at a0 a1 a2 a3 a4 hpk HP HD c1 hTL2 hTE2 hbig
        have hTz := txB_size TL
        have hTz2 : (txB TL).size ≤ 100 := by omega
        generalize hTX : txB TL = TX at *
        have HTX := Lib.hid hTX
        generalize txB xt = XT at *
        by_cases hE0 : E = 0
        · subst hE0
          obtain ⟨acc, q5, q6⟩ : ∃ acc, X = txB acc ∧ joinR (l.drop k) (prevK l k) acc = R := by
            rcases q4 with ⟨_, h⟩ | ⟨h, _⟩
            · exact h
            · exact absurd rfl h
          have hXz : X.size ≤ 101 * 30 := by omega
          have hstep : ∀ (sp : List UInt8), sepL (prevK l k) xk = sp → ∀ X2, X2 = txB (acc ++ sp ++ TL) → ((TE = 0 ∧ ∃ acc', X2 = txB acc' ∧ joinR (l.drop (k + 1)) (prevK l (k + 1)) acc' = R) ∨ (TE ≠ 0 ∧ R = ([], TE))) := fun sp hsp X2 hX2 => by
            rw [hdk, joinR] at q6
            dsimp only at q6
            rw [hTE2, hTL2, hsp] at q6
            by_cases h0 : TE = 0
            · left
              rw [if_neg (by rw [h0]; simp)] at q6
              exact ⟨h0, _, hX2, by rw [hpk]; exact q6⟩
            · right
              rw [if_pos h0] at q6
              exact ⟨h0, q6.symm⟩
          clear q4 htk hdk hTE hTL hz hTz
          have hne : ∀ q : Int, (q == 4) = false → (q != 4) = true := fun q h => by unfold bne; rw [h]; rfl
          rcases hprev with ⟨hk0, hpv⟩ | ⟨y, hk1, hpv, hcell⟩
          · have hsep : sepL (prevK l k) xk = [] := by rw [hpv]; rfl
            have c2 : decide ((0 : Int) < (k : Int)) = false := decide_eq_false (by omega)
            have c3 : ¬ 0 < k := by omega
            have HNew : Hid (k + 1 ≤ l.length ∧ (∀ x ∈ l.take (k + 1), x.t.length ≤ 100) ∧ (X ++ TX).size ≤ 101 * (k + 1) ∧ ((TE = 0 ∧ ∃ acc', X ++ TX = txB acc' ∧ joinR (l.drop (k + 1)) (prevK l (k + 1)) acc' = R) ∨ (TE ≠ 0 ∧ R = ([], TE)))) := Lib.hid ⟨by omega, htk2, by rw [ByteArray.size_append]; omega, hstep ([]) hsep (X ++ TX) (by rw [q5, ← HTX.out, txB_append, List.append_nil])⟩
            clear hstep htk2 hsep q1 q2 q3 q5 q6 hl HQ htl hTL2 hTE2 hbig hpk hB
            clear hpv hk0 hTX
            go_wp2_with fail
            ((with_reducible refine (HP.out _ hTr).mono ?_); rintro _ u1 ⟨rfl, hb⟩)
            have T : u1.cell? ⟨g, o + k * 5, none⟩ = some (.int .i64 xk) ∧ u1.cell? ⟨g, o + k * 5 + 1, none⟩ = some (.string XT) ∧ u1.cell? ⟨g, o + k * 5 + 2, none⟩ = some (.int .i64 xn) ∧ u1.cell? ⟨g, o + k * 5 + 3, none⟩ = some (.int .i64 xl) ∧ u1.cell? ⟨g, o + k * 5 + 4, none⟩ = some (.int .i64 xc) := by
                refine ⟨?_, ?_, ?_, ?_, ?_⟩ <;> refine kc hb ?_ <;> (go_simp; first | done | rfl)
            have hz := hb.size
            (try simp only [World.size_alloc, World.size_setCell, World.size_drew] at hz)
            have hla' : g < u1.heap.size := by omega
            have hB' : Below wr.heap.size wr u1 := by
                refine kb ?_ hb
                go_grown
            clear hb hz
            obtain ⟨ha_0, ha_1, ha_2, ha_3, ha_4⟩ := T
            have hla := hla'; clear hla'
            have hna0 : ¬ (g = u1.heap.size) := by omega
            have hna1 : ¬ (g = u1.heap.size + 1) := by omega
            have hka1 : g < u1.heap.size + 1 := by omega
            have hna2 : ¬ (g = u1.heap.size + 1 + 1) := by omega
            have hka2 : g < u1.heap.size + 1 + 1 := by omega
            have hB := hB'; clear hB'
            have hsz := hB.size
            go_wp2_with fail
            ((with_reducible refine (plain_c _ _ _ _ _ _).mono ?_); rintro _ u2 ⟨rfl, hb⟩)
            have T : u2.cell? ⟨g, o + k * 5, none⟩ = some (.int .i64 xk) ∧ u2.cell? ⟨g, o + k * 5 + 1, none⟩ = some (.string XT) ∧ u2.cell? ⟨g, o + k * 5 + 2, none⟩ = some (.int .i64 xn) ∧ u2.cell? ⟨g, o + k * 5 + 3, none⟩ = some (.int .i64 xl) ∧ u2.cell? ⟨g, o + k * 5 + 4, none⟩ = some (.int .i64 xc) := by
                refine ⟨?_, ?_, ?_, ?_, ?_⟩ <;> refine kc hb ?_ <;> (go_simp; first | done | rfl)
            have hz := hb.size
            (try simp only [World.size_alloc, World.size_setCell, World.size_drew] at hz)
            have hla' : g < u2.heap.size := by omega
            have hB' : Below wr.heap.size wr u2 := by
                refine kb ?_ hb
                go_grown
            clear ha_0 ha_1 ha_2 ha_3 ha_4 hla hna0 hna1 hka1 hna2 hka2 hB hsz
            clear hb hz
            obtain ⟨ha_0, ha_1, ha_2, ha_3, ha_4⟩ := T
            have hla := hla'; clear hla'
            have hna0 : ¬ (g = u2.heap.size) := by omega
            have hna1 : ¬ (g = u2.heap.size + 1) := by omega
            have hka1 : g < u2.heap.size + 1 := by omega
            have hna2 : ¬ (g = u2.heap.size + 1 + 1) := by omega
            have hka2 : g < u2.heap.size + 1 + 1 := by omega
            have hB := hB'; clear hB'
            have hsz := hB.size
            go_wp2_with fail
            ((with_reducible refine (HD.out _).mono ?_); rintro _ u3 ⟨rfl, hb⟩)
            have T : u3.cell? ⟨g, o + k * 5, none⟩ = some (.int .i64 xk) ∧ u3.cell? ⟨g, o + k * 5 + 1, none⟩ = some (.string XT) ∧ u3.cell? ⟨g, o + k * 5 + 2, none⟩ = some (.int .i64 xn) ∧ u3.cell? ⟨g, o + k * 5 + 3, none⟩ = some (.int .i64 xl) ∧ u3.cell? ⟨g, o + k * 5 + 4, none⟩ = some (.int .i64 xc) := by
                refine ⟨?_, ?_, ?_, ?_, ?_⟩ <;> refine kc hb ?_ <;> (go_simp; first | done | rfl)
            have hz := hb.size
            (try simp only [World.size_alloc, World.size_setCell, World.size_drew] at hz)
            have hla' : g < u3.heap.size := by omega
            have hB' : Below wr.heap.size wr u3 := by
                refine kb ?_ hb
                go_grown
            clear ha_0 ha_1 ha_2 ha_3 ha_4 hla hna0 hna1 hka1 hna2 hka2 hB hsz
            clear hb hz
            obtain ⟨ha_0, ha_1, ha_2, ha_3, ha_4⟩ := T
            have hla := hla'; clear hla'
            have hna0 : ¬ (g = u3.heap.size) := by omega
            have hna1 : ¬ (g = u3.heap.size + 1) := by omega
            have hka1 : g < u3.heap.size + 1 := by omega
            have hna2 : ¬ (g = u3.heap.size + 1 + 1) := by omega
            have hka2 : g < u3.heap.size + 1 + 1 := by omega
            have hB := hB'; clear hB'
            have hsz := hB.size
            go_wp2
            go_roundw
            case rel => exact ⟨k + 1, X ++ TX, TE, rfl, rfl, by go_num, HNew, HB.out.trans (Below.mono hB hsw)⟩
            case measure => have := HJ1.out; simp [intOf]; omega
          · have hq4 : (y == 4) = true → sepL (prevK l k) xk = [] := fun h => by
              rw [hpv]
              show (if _ then _ else _) = _
              rw [if_neg (fun h2 => h2.1 (beq_iff_eq.1 h))]
            have hx4 : (xk == 4) = true → sepL (prevK l k) xk = [] := fun h => by
              rw [hpv]
              show (if _ then _ else _) = _
              rw [if_neg (fun h2 => h2.2 (beq_iff_eq.1 h))]
            have hb4 : (y == 4) = false → (xk == 4) = false → sepL (prevK l k) xk = [32] := fun h h3 => by
              rw [hpv]
              show (if _ then _ else _) = _
              rw [if_pos ⟨beq_eq_false_iff_ne.1 h, beq_eq_false_iff_ne.1 h3⟩]
            have c2 : decide ((0 : Int) < (k : Int)) = true := decide_eq_true (by omega)
            have c3 : 0 < k := by omega
            have hin1 : (0 : Int) ≤ (k : Int) - 1 ∧ (k : Int) - 1 < (l.length : Int) := by omega
            have hin2 : (1 : Int) ≤ (k : Int) := by omega
            have hin3 : 1 ≤ k := by omega
            have hin4 : k - 1 < l.length := by omega
            have hw2 : IntKind.i64.wrap ((k : Int) - 1) = (k : Int) - 1 := IntWalk.i64_in _ (by omega)
            have hlg2 := klt hcell
            have hy_0 := hcell
            cases hk4 : (xk == 4)
            · have m4 := hne xk hk4
              cases hy4 : (y == 4)
              · have n4 := hne y hy4
                have hsep := hb4 hy4 hk4
                clear hq4 hx4 hb4 hne
                have HNew : Hid (k + 1 ≤ l.length ∧ (∀ x ∈ l.take (k + 1), x.t.length ≤ 100) ∧ (X ++ ({ data := #[32] } : ByteArray) ++ TX).size ≤ 101 * (k + 1) ∧ ((TE = 0 ∧ ∃ acc', X ++ ({ data := #[32] } : ByteArray) ++ TX = txB acc' ∧ joinR (l.drop (k + 1)) (prevK l (k + 1)) acc' = R) ∨ (TE ≠ 0 ∧ R = ([], TE)))) := Lib.hid ⟨by omega, htk2, by rw [ByteArray.size_append, ByteArray.size_append]; show X.size + 1 + TX.size ≤ _; omega, hstep ([32]) hsep (X ++ ({ data := #[32] } : ByteArray) ++ TX) (by rw [q5, ← HTX.out]; show txB acc ++ txB [32] ++ txB TL = _; rw [txB_append, txB_append])⟩
                clear hstep htk2 hsep q1 q2 q3 q5 q6 hl HQ htl hTL2 hTE2 hbig hpk hB
                clear hpv hk1 hTX
                go_wp2_with fail
                ((with_reducible refine (HP.out _ hTr).mono ?_); rintro _ u1 ⟨rfl, hb⟩)
                have T : u1.cell? ⟨g, o + k * 5, none⟩ = some (.int .i64 xk) ∧ u1.cell? ⟨g, o + k * 5 + 1, none⟩ = some (.string XT) ∧ u1.cell? ⟨g, o + k * 5 + 2, none⟩ = some (.int .i64 xn) ∧ u1.cell? ⟨g, o + k * 5 + 3, none⟩ = some (.int .i64 xl) ∧ u1.cell? ⟨g, o + k * 5 + 4, none⟩ = some (.int .i64 xc) ∧ u1.cell? ⟨g, o + (k - 1) * 5, none⟩ = some (.int .i64 y) := by
                    refine ⟨?_, ?_, ?_, ?_, ?_, ?_⟩ <;> refine kc hb ?_ <;> (go_simp; first | done | rfl)
                have hz := hb.size
                (try simp only [World.size_alloc, World.size_setCell, World.size_drew] at hz)
                have hla' : g < u1.heap.size := by omega
                have hly' : g < u1.heap.size := by omega
                have hB' : Below wr.heap.size wr u1 := by
                    refine kb ?_ hb
                    go_grown
                clear hb hz
                obtain ⟨ha_0, ha_1, ha_2, ha_3, ha_4, hy_0⟩ := T
                have hla := hla'; clear hla'
                have hly := hly'; clear hly'
                have hna0 : ¬ (g = u1.heap.size) := by omega
                have hna1 : ¬ (g = u1.heap.size + 1) := by omega
                have hka1 : g < u1.heap.size + 1 := by omega
                have hna2 : ¬ (g = u1.heap.size + 1 + 1) := by omega
                have hka2 : g < u1.heap.size + 1 + 1 := by omega
                have hB := hB'; clear hB'
                have hsz := hB.size
                go_wp2_with fail
                ((with_reducible refine (plain_c _ _ _ _ _ _).mono ?_); rintro _ u2 ⟨rfl, hb⟩)
                have T : u2.cell? ⟨g, o + k * 5, none⟩ = some (.int .i64 xk) ∧ u2.cell? ⟨g, o + k * 5 + 1, none⟩ = some (.string XT) ∧ u2.cell? ⟨g, o + k * 5 + 2, none⟩ = some (.int .i64 xn) ∧ u2.cell? ⟨g, o + k * 5 + 3, none⟩ = some (.int .i64 xl) ∧ u2.cell? ⟨g, o + k * 5 + 4, none⟩ = some (.int .i64 xc) ∧ u2.cell? ⟨g, o + (k - 1) * 5, none⟩ = some (.int .i64 y) := by
                    refine ⟨?_, ?_, ?_, ?_, ?_, ?_⟩ <;> refine kc hb ?_ <;> (go_simp; first | done | rfl)
                have hz := hb.size
                (try simp only [World.size_alloc, World.size_setCell, World.size_drew] at hz)
                have hla' : g < u2.heap.size := by omega
                have hly' : g < u2.heap.size := by omega
                have hB' : Below wr.heap.size wr u2 := by
                    refine kb ?_ hb
                    go_grown
                clear ha_0 ha_1 ha_2 ha_3 ha_4 hy_0 hla hly hna0 hna1 hka1 hna2 hka2 hB hsz
                clear hb hz
                obtain ⟨ha_0, ha_1, ha_2, ha_3, ha_4, hy_0⟩ := T
                have hla := hla'; clear hla'
                have hly := hly'; clear hly'
                have hna0 : ¬ (g = u2.heap.size) := by omega
                have hna1 : ¬ (g = u2.heap.size + 1) := by omega
                have hka1 : g < u2.heap.size + 1 := by omega
                have hna2 : ¬ (g = u2.heap.size + 1 + 1) := by omega
                have hka2 : g < u2.heap.size + 1 + 1 := by omega
                have hB := hB'; clear hB'
                have hsz := hB.size
                go_wp2_with fail
                ((with_reducible refine (HD.out _).mono ?_); rintro _ u3 ⟨rfl, hb⟩)
                have T : u3.cell? ⟨g, o + k * 5, none⟩ = some (.int .i64 xk) ∧ u3.cell? ⟨g, o + k * 5 + 1, none⟩ = some (.string XT) ∧ u3.cell? ⟨g, o + k * 5 + 2, none⟩ = some (.int .i64 xn) ∧ u3.cell? ⟨g, o + k * 5 + 3, none⟩ = some (.int .i64 xl) ∧ u3.cell? ⟨g, o + k * 5 + 4, none⟩ = some (.int .i64 xc) ∧ u3.cell? ⟨g, o + (k - 1) * 5, none⟩ = some (.int .i64 y) := by
                    refine ⟨?_, ?_, ?_, ?_, ?_, ?_⟩ <;> refine kc hb ?_ <;> (go_simp; first | done | rfl)
                have hz := hb.size
                (try simp only [World.size_alloc, World.size_setCell, World.size_drew] at hz)
                have hla' : g < u3.heap.size := by omega
                have hly' : g < u3.heap.size := by omega
                have hB' : Below wr.heap.size wr u3 := by
                    refine kb ?_ hb
                    go_grown
                clear ha_0 ha_1 ha_2 ha_3 ha_4 hy_0 hla hly hna0 hna1 hka1 hna2 hka2 hB hsz
                clear hb hz
                obtain ⟨ha_0, ha_1, ha_2, ha_3, ha_4, hy_0⟩ := T
                have hla := hla'; clear hla'
                have hly := hly'; clear hly'
                have hna0 : ¬ (g = u3.heap.size) := by omega
                have hna1 : ¬ (g = u3.heap.size + 1) := by omega
                have hka1 : g < u3.heap.size + 1 := by omega
                have hna2 : ¬ (g = u3.heap.size + 1 + 1) := by omega
                have hka2 : g < u3.heap.size + 1 + 1 := by omega
                have hB := hB'; clear hB'
                have hsz := hB.size
                go_wp2
                go_roundw
                case rel => exact ⟨k + 1, X ++ ({ data := #[32] } : ByteArray) ++ TX, TE, rfl, rfl, by go_num, HNew, HB.out.trans (Below.mono hB hsw)⟩
                case measure => have := HJ1.out; simp [intOf]; omega
              · have n4 : (y != 4) = false := by unfold bne; rw [hy4]; rfl
                have hsep := hq4 hy4
                clear hq4 hx4 hb4 hne
                have HNew : Hid (k + 1 ≤ l.length ∧ (∀ x ∈ l.take (k + 1), x.t.length ≤ 100) ∧ (X ++ TX).size ≤ 101 * (k + 1) ∧ ((TE = 0 ∧ ∃ acc', X ++ TX = txB acc' ∧ joinR (l.drop (k + 1)) (prevK l (k + 1)) acc' = R) ∨ (TE ≠ 0 ∧ R = ([], TE)))) := Lib.hid ⟨by omega, htk2, by rw [ByteArray.size_append]; omega, hstep ([]) hsep (X ++ TX) (by rw [q5, ← HTX.out, txB_append, List.append_nil])⟩
                clear hstep htk2 hsep q1 q2 q3 q5 q6 hl HQ htl hTL2 hTE2 hbig hpk hB
                clear hpv hk1 hTX
                go_wp2_with fail
                ((with_reducible refine (HP.out _ hTr).mono ?_); rintro _ u1 ⟨rfl, hb⟩)
                have T : u1.cell? ⟨g, o + k * 5, none⟩ = some (.int .i64 xk) ∧ u1.cell? ⟨g, o + k * 5 + 1, none⟩ = some (.string XT) ∧ u1.cell? ⟨g, o + k * 5 + 2, none⟩ = some (.int .i64 xn) ∧ u1.cell? ⟨g, o + k * 5 + 3, none⟩ = some (.int .i64 xl) ∧ u1.cell? ⟨g, o + k * 5 + 4, none⟩ = some (.int .i64 xc) ∧ u1.cell? ⟨g, o + (k - 1) * 5, none⟩ = some (.int .i64 y) := by
                    refine ⟨?_, ?_, ?_, ?_, ?_, ?_⟩ <;> refine kc hb ?_ <;> (go_simp; first | done | rfl)
                have hz := hb.size
                (try simp only [World.size_alloc, World.size_setCell, World.size_drew] at hz)
                have hla' : g < u1.heap.size := by omega
                have hly' : g < u1.heap.size := by omega
                have hB' : Below wr.heap.size wr u1 := by
                    refine kb ?_ hb
                    go_grown
                clear hb hz
                obtain ⟨ha_0, ha_1, ha_2, ha_3, ha_4, hy_0⟩ := T
                have hla := hla'; clear hla'
                have hly := hly'; clear hly'
                have hna0 : ¬ (g = u1.heap.size) := by omega
                have hna1 : ¬ (g = u1.heap.size + 1) := by omega
                have hka1 : g < u1.heap.size + 1 := by omega
                have hna2 : ¬ (g = u1.heap.size + 1 + 1) := by omega
                have hka2 : g < u1.heap.size + 1 + 1 := by omega
                have hB := hB'; clear hB'
                have hsz := hB.size
                go_wp2_with fail
                ((with_reducible refine (plain_c _ _ _ _ _ _).mono ?_); rintro _ u2 ⟨rfl, hb⟩)
                have T : u2.cell? ⟨g, o + k * 5, none⟩ = some (.int .i64 xk) ∧ u2.cell? ⟨g, o + k * 5 + 1, none⟩ = some (.string XT) ∧ u2.cell? ⟨g, o + k * 5 + 2, none⟩ = some (.int .i64 xn) ∧ u2.cell? ⟨g, o + k * 5 + 3, none⟩ = some (.int .i64 xl) ∧ u2.cell? ⟨g, o + k * 5 + 4, none⟩ = some (.int .i64 xc) ∧ u2.cell? ⟨g, o + (k - 1) * 5, none⟩ = some (.int .i64 y) := by
                    refine ⟨?_, ?_, ?_, ?_, ?_, ?_⟩ <;> refine kc hb ?_ <;> (go_simp; first | done | rfl)
                have hz := hb.size
                (try simp only [World.size_alloc, World.size_setCell, World.size_drew] at hz)
                have hla' : g < u2.heap.size := by omega
                have hly' : g < u2.heap.size := by omega
                have hB' : Below wr.heap.size wr u2 := by
                    refine kb ?_ hb
                    go_grown
                clear ha_0 ha_1 ha_2 ha_3 ha_4 hy_0 hla hly hna0 hna1 hka1 hna2 hka2 hB hsz
                clear hb hz
                obtain ⟨ha_0, ha_1, ha_2, ha_3, ha_4, hy_0⟩ := T
                have hla := hla'; clear hla'
                have hly := hly'; clear hly'
                have hna0 : ¬ (g = u2.heap.size) := by omega
                have hna1 : ¬ (g = u2.heap.size + 1) := by omega
                have hka1 : g < u2.heap.size + 1 := by omega
                have hna2 : ¬ (g = u2.heap.size + 1 + 1) := by omega
                have hka2 : g < u2.heap.size + 1 + 1 := by omega
                have hB := hB'; clear hB'
                have hsz := hB.size
                go_wp2_with fail
                ((with_reducible refine (HD.out _).mono ?_); rintro _ u3 ⟨rfl, hb⟩)
                have T : u3.cell? ⟨g, o + k * 5, none⟩ = some (.int .i64 xk) ∧ u3.cell? ⟨g, o + k * 5 + 1, none⟩ = some (.string XT) ∧ u3.cell? ⟨g, o + k * 5 + 2, none⟩ = some (.int .i64 xn) ∧ u3.cell? ⟨g, o + k * 5 + 3, none⟩ = some (.int .i64 xl) ∧ u3.cell? ⟨g, o + k * 5 + 4, none⟩ = some (.int .i64 xc) ∧ u3.cell? ⟨g, o + (k - 1) * 5, none⟩ = some (.int .i64 y) := by
                    refine ⟨?_, ?_, ?_, ?_, ?_, ?_⟩ <;> refine kc hb ?_ <;> (go_simp; first | done | rfl)
                have hz := hb.size
                (try simp only [World.size_alloc, World.size_setCell, World.size_drew] at hz)
                have hla' : g < u3.heap.size := by omega
                have hly' : g < u3.heap.size := by omega
                have hB' : Below wr.heap.size wr u3 := by
                    refine kb ?_ hb
                    go_grown
                clear ha_0 ha_1 ha_2 ha_3 ha_4 hy_0 hla hly hna0 hna1 hka1 hna2 hka2 hB hsz
                clear hb hz
                obtain ⟨ha_0, ha_1, ha_2, ha_3, ha_4, hy_0⟩ := T
                have hla := hla'; clear hla'
                have hly := hly'; clear hly'
                have hna0 : ¬ (g = u3.heap.size) := by omega
                have hna1 : ¬ (g = u3.heap.size + 1) := by omega
                have hka1 : g < u3.heap.size + 1 := by omega
                have hna2 : ¬ (g = u3.heap.size + 1 + 1) := by omega
                have hka2 : g < u3.heap.size + 1 + 1 := by omega
                have hB := hB'; clear hB'
                have hsz := hB.size
                go_wp2
                go_roundw
                case rel => exact ⟨k + 1, X ++ TX, TE, rfl, rfl, by go_num, HNew, HB.out.trans (Below.mono hB hsw)⟩
                case measure => have := HJ1.out; simp [intOf]; omega
            · have m4 : (xk != 4) = false := by unfold bne; rw [hk4]; rfl
              have hsep := hx4 hk4
              clear hq4 hx4 hb4 hne
              have HNew : Hid (k + 1 ≤ l.length ∧ (∀ x ∈ l.take (k + 1), x.t.length ≤ 100) ∧ (X ++ TX).size ≤ 101 * (k + 1) ∧ ((TE = 0 ∧ ∃ acc', X ++ TX = txB acc' ∧ joinR (l.drop (k + 1)) (prevK l (k + 1)) acc' = R) ∨ (TE ≠ 0 ∧ R = ([], TE)))) := Lib.hid ⟨by omega, htk2, by rw [ByteArray.size_append]; omega, hstep ([]) hsep (X ++ TX) (by rw [q5, ← HTX.out, txB_append, List.append_nil])⟩
              clear hstep htk2 hsep q1 q2 q3 q5 q6 hl HQ htl hTL2 hTE2 hbig hpk hB
              clear hpv hk1 hTX
              go_wp2_with fail
              ((with_reducible refine (HP.out _ hTr).mono ?_); rintro _ u1 ⟨rfl, hb⟩)
              have T : u1.cell? ⟨g, o + k * 5, none⟩ = some (.int .i64 xk) ∧ u1.cell? ⟨g, o + k * 5 + 1, none⟩ = some (.string XT) ∧ u1.cell? ⟨g, o + k * 5 + 2, none⟩ = some (.int .i64 xn) ∧ u1.cell? ⟨g, o + k * 5 + 3, none⟩ = some (.int .i64 xl) ∧ u1.cell? ⟨g, o + k * 5 + 4, none⟩ = some (.int .i64 xc) ∧ u1.cell? ⟨g, o + (k - 1) * 5, none⟩ = some (.int .i64 y) := by
                  refine ⟨?_, ?_, ?_, ?_, ?_, ?_⟩ <;> refine kc hb ?_ <;> (go_simp; first | done | rfl)
              have hz := hb.size
              (try simp only [World.size_alloc, World.size_setCell, World.size_drew] at hz)
              have hla' : g < u1.heap.size := by omega
              have hly' : g < u1.heap.size := by omega
              have hB' : Below wr.heap.size wr u1 := by
                  refine kb ?_ hb
                  go_grown
              clear hb hz
              obtain ⟨ha_0, ha_1, ha_2, ha_3, ha_4, hy_0⟩ := T
              have hla := hla'; clear hla'
              have hly := hly'; clear hly'
              have hna0 : ¬ (g = u1.heap.size) := by omega
              have hna1 : ¬ (g = u1.heap.size + 1) := by omega
              have hka1 : g < u1.heap.size + 1 := by omega
              have hna2 : ¬ (g = u1.heap.size + 1 + 1) := by omega
              have hka2 : g < u1.heap.size + 1 + 1 := by omega
              have hB := hB'; clear hB'
              have hsz := hB.size
              go_wp2_with fail
              ((with_reducible refine (plain_c _ _ _ _ _ _).mono ?_); rintro _ u2 ⟨rfl, hb⟩)
              have T : u2.cell? ⟨g, o + k * 5, none⟩ = some (.int .i64 xk) ∧ u2.cell? ⟨g, o + k * 5 + 1, none⟩ = some (.string XT) ∧ u2.cell? ⟨g, o + k * 5 + 2, none⟩ = some (.int .i64 xn) ∧ u2.cell? ⟨g, o + k * 5 + 3, none⟩ = some (.int .i64 xl) ∧ u2.cell? ⟨g, o + k * 5 + 4, none⟩ = some (.int .i64 xc) ∧ u2.cell? ⟨g, o + (k - 1) * 5, none⟩ = some (.int .i64 y) := by
                  refine ⟨?_, ?_, ?_, ?_, ?_, ?_⟩ <;> refine kc hb ?_ <;> (go_simp; first | done | rfl)
              have hz := hb.size
              (try simp only [World.size_alloc, World.size_setCell, World.size_drew] at hz)
              have hla' : g < u2.heap.size := by omega
              have hly' : g < u2.heap.size := by omega
              have hB' : Below wr.heap.size wr u2 := by
                  refine kb ?_ hb
                  go_grown
              clear ha_0 ha_1 ha_2 ha_3 ha_4 hy_0 hla hly hna0 hna1 hka1 hna2 hka2 hB hsz
              clear hb hz
              obtain ⟨ha_0, ha_1, ha_2, ha_3, ha_4, hy_0⟩ := T
              have hla := hla'; clear hla'
              have hly := hly'; clear hly'
              have hna0 : ¬ (g = u2.heap.size) := by omega
              have hna1 : ¬ (g = u2.heap.size + 1) := by omega
              have hka1 : g < u2.heap.size + 1 := by omega
              have hna2 : ¬ (g = u2.heap.size + 1 + 1) := by omega
              have hka2 : g < u2.heap.size + 1 + 1 := by omega
              have hB := hB'; clear hB'
              have hsz := hB.size
              go_wp2_with fail
              ((with_reducible refine (HD.out _).mono ?_); rintro _ u3 ⟨rfl, hb⟩)
              have T : u3.cell? ⟨g, o + k * 5, none⟩ = some (.int .i64 xk) ∧ u3.cell? ⟨g, o + k * 5 + 1, none⟩ = some (.string XT) ∧ u3.cell? ⟨g, o + k * 5 + 2, none⟩ = some (.int .i64 xn) ∧ u3.cell? ⟨g, o + k * 5 + 3, none⟩ = some (.int .i64 xl) ∧ u3.cell? ⟨g, o + k * 5 + 4, none⟩ = some (.int .i64 xc) ∧ u3.cell? ⟨g, o + (k - 1) * 5, none⟩ = some (.int .i64 y) := by
                  refine ⟨?_, ?_, ?_, ?_, ?_, ?_⟩ <;> refine kc hb ?_ <;> (go_simp; first | done | rfl)
              have hz := hb.size
              (try simp only [World.size_alloc, World.size_setCell, World.size_drew] at hz)
              have hla' : g < u3.heap.size := by omega
              have hly' : g < u3.heap.size := by omega
              have hB' : Below wr.heap.size wr u3 := by
                  refine kb ?_ hb
                  go_grown
              clear ha_0 ha_1 ha_2 ha_3 ha_4 hy_0 hla hly hna0 hna1 hka1 hna2 hka2 hB hsz
              clear hb hz
              obtain ⟨ha_0, ha_1, ha_2, ha_3, ha_4, hy_0⟩ := T
              have hla := hla'; clear hla'
              have hly := hly'; clear hly'
              have hna0 : ¬ (g = u3.heap.size) := by omega
              have hna1 : ¬ (g = u3.heap.size + 1) := by omega
              have hka1 : g < u3.heap.size + 1 := by omega
              have hna2 : ¬ (g = u3.heap.size + 1 + 1) := by omega
              have hka2 : g < u3.heap.size + 1 + 1 := by omega
              have hB := hB'; clear hB'
              have hsz := hB.size
              go_wp2
              go_roundw
              case rel => exact ⟨k + 1, X ++ TX, TE, rfl, rfl, by go_num, HNew, HB.out.trans (Below.mono hB hsw)⟩
              case measure => have := HJ1.out; simp [intOf]; omega
        · have he2 : (E != 0) = true := by simp [bne, hE0]
          have HNew : Hid (k + 1 ≤ l.length ∧ (∀ x ∈ l.take (k + 1), x.t.length ≤ 100) ∧ X.size ≤ 101 * (k + 1) ∧ ((E = 0 ∧ ∃ acc', X = txB acc' ∧ joinR (l.drop (k + 1)) (prevK l (k + 1)) acc' = R) ∨ (E ≠ 0 ∧ R = ([], E)))) := Lib.hid ⟨by omega, htk2, by omega, by
            rcases q4 with ⟨h, _⟩ | h
            · exact absurd h hE0
            · exact .inr h⟩
          clear htk2 q1 q2 q3 q4 hl HQ htl hTL2 hTE2 hbig hpk hB htk hdk hTE hTL hz hTz hprev hTX hE0
          go_wp2_with fail
          ((with_reducible refine (HP.out _ hTr).mono ?_); rintro _ u1 ⟨rfl, hb⟩)
          have T : u1.cell? ⟨g, o + k * 5, none⟩ = some (.int .i64 xk) ∧ u1.cell? ⟨g, o + k * 5 + 1, none⟩ = some (.string XT) ∧ u1.cell? ⟨g, o + k * 5 + 2, none⟩ = some (.int .i64 xn) ∧ u1.cell? ⟨g, o + k * 5 + 3, none⟩ = some (.int .i64 xl) ∧ u1.cell? ⟨g, o + k * 5 + 4, none⟩ = some (.int .i64 xc) := by
              refine ⟨?_, ?_, ?_, ?_, ?_⟩ <;> refine kc hb ?_ <;> (go_simp; first | done | rfl)
          have hz := hb.size
          (try simp only [World.size_alloc, World.size_setCell, World.size_drew] at hz)
          have hla' : g < u1.heap.size := by omega
          have hB' : Below wr.heap.size wr u1 := by
              refine kb ?_ hb
              go_grown
          clear hb hz
          obtain ⟨ha_0, ha_1, ha_2, ha_3, ha_4⟩ := T
          have hla := hla'; clear hla'
          have hna0 : ¬ (g = u1.heap.size) := by omega
          have hna1 : ¬ (g = u1.heap.size + 1) := by omega
          have hka1 : g < u1.heap.size + 1 := by omega
          have hna2 : ¬ (g = u1.heap.size + 1 + 1) := by omega
          have hka2 : g < u1.heap.size + 1 + 1 := by omega
          have hB := hB'; clear hB'
          have hsz := hB.size
          go_wp2_with fail
          ((with_reducible refine (plain_c _ _ _ _ _ _).mono ?_); rintro _ u2 ⟨rfl, hb⟩)
          have T : u2.cell? ⟨g, o + k * 5, none⟩ = some (.int .i64 xk) ∧ u2.cell? ⟨g, o + k * 5 + 1, none⟩ = some (.string XT) ∧ u2.cell? ⟨g, o + k * 5 + 2, none⟩ = some (.int .i64 xn) ∧ u2.cell? ⟨g, o + k * 5 + 3, none⟩ = some (.int .i64 xl) ∧ u2.cell? ⟨g, o + k * 5 + 4, none⟩ = some (.int .i64 xc) := by
              refine ⟨?_, ?_, ?_, ?_, ?_⟩ <;> refine kc hb ?_ <;> (go_simp; first | done | rfl)
          have hz := hb.size
          (try simp only [World.size_alloc, World.size_setCell, World.size_drew] at hz)
          have hla' : g < u2.heap.size := by omega
          have hB' : Below wr.heap.size wr u2 := by
              refine kb ?_ hb
              go_grown
          clear ha_0 ha_1 ha_2 ha_3 ha_4 hla hna0 hna1 hka1 hna2 hka2 hB hsz
          clear hb hz
          obtain ⟨ha_0, ha_1, ha_2, ha_3, ha_4⟩ := T
          have hla := hla'; clear hla'
          have hna0 : ¬ (g = u2.heap.size) := by omega
          have hna1 : ¬ (g = u2.heap.size + 1) := by omega
          have hka1 : g < u2.heap.size + 1 := by omega
          have hna2 : ¬ (g = u2.heap.size + 1 + 1) := by omega
          have hka2 : g < u2.heap.size + 1 + 1 := by omega
          have hB := hB'; clear hB'
          have hsz := hB.size
          go_wp2_with fail
          ((with_reducible refine (HD.out _).mono ?_); rintro _ u3 ⟨rfl, hb⟩)
          have T : u3.cell? ⟨g, o + k * 5, none⟩ = some (.int .i64 xk) ∧ u3.cell? ⟨g, o + k * 5 + 1, none⟩ = some (.string XT) ∧ u3.cell? ⟨g, o + k * 5 + 2, none⟩ = some (.int .i64 xn) ∧ u3.cell? ⟨g, o + k * 5 + 3, none⟩ = some (.int .i64 xl) ∧ u3.cell? ⟨g, o + k * 5 + 4, none⟩ = some (.int .i64 xc) := by
              refine ⟨?_, ?_, ?_, ?_, ?_⟩ <;> refine kc hb ?_ <;> (go_simp; first | done | rfl)
          have hz := hb.size
          (try simp only [World.size_alloc, World.size_setCell, World.size_drew] at hz)
          have hla' : g < u3.heap.size := by omega
          have hB' : Below wr.heap.size wr u3 := by
              refine kb ?_ hb
              go_grown
          clear ha_0 ha_1 ha_2 ha_3 ha_4 hla hna0 hna1 hka1 hna2 hka2 hB hsz
          clear hb hz
          obtain ⟨ha_0, ha_1, ha_2, ha_3, ha_4⟩ := T
          have hla := hla'; clear hla'
          have hna0 : ¬ (g = u3.heap.size) := by omega
          have hna1 : ¬ (g = u3.heap.size + 1) := by omega
          have hka1 : g < u3.heap.size + 1 := by omega
          have hna2 : ¬ (g = u3.heap.size + 1 + 1) := by omega
          have hka2 : g < u3.heap.size + 1 + 1 := by omega
          have hB := hB'; clear hB'
          have hsz := hB.size
          go_wp2
          go_roundw
          case rel => exact ⟨k + 1, X, E, rfl, rfl, by go_num, HNew, HB.out.trans (Below.mono hB hsw)⟩
          case measure => have := HJ1.out; simp [intOf]; omega
    · have hd : decide ((k : Int) < (l.length : Int)) = false := decide_eq_false (by omega)
      have ht : ∀ x ∈ l, x.t.length ≤ 100 := by rw [List.take_of_length_le (by omega)] at q2; exact q2
      have HJ2 := Lib.hid (HJ.out ht wr (HV.out.below hB) (kc hB hT))
      rcases q4 with ⟨rfl, acc, h1, h2⟩ | ⟨h1, h2⟩
      · rw [joinR_fin l k _ acc (by omega)] at h2
        rw [← h2] at HJ2
        dsimp only at HJ2
        rw [← h1] at HJ2
        have hsw : w.heap.size ≤ wr.heap.size := hB.size
        have HB := Lib.hid hB
        have hbr : Below wr.heap.size wr wr := Below.refl _ _
        have heq : (X.toList == X.toList) = true := by simp
        clear q1 q2 q3 hl HQ ht h1 h2
        clear hB
        go_wp2_with fail
        ((with_reducible refine (HJ2.out).mono ?_); rintro _ y1 ⟨rfl, hb⟩)
        have hz := hb.size
        (try simp only [World.size_alloc, World.size_setCell, World.size_drew] at hz)
        have hB' : Below wr.heap.size wr y1 := by
            refine kb ?_ hb
            go_grown
        clear hb hz
        have hB := hB'; clear hB'
        have hsz := hB.size
        go_wp2_with fail
        ((with_reducible refine (HA.out _).mono ?_); rintro _ y2 ⟨rfl, hb⟩)
        have hz := hb.size
        (try simp only [World.size_alloc, World.size_setCell, World.size_drew] at hz)
        have hB' : Below wr.heap.size wr y2 := by
            refine kb ?_ hb
            go_grown
        clear hB hsz
        clear hb hz
        have hB := hB'; clear hB'
        have hsz := hB.size
        go_wp2
        go_ret
        exact ⟨rfl, HB.out.trans (Below.mono hB hsw)⟩
      · rw [h2] at HJ2
        dsimp only at HJ2
        have he2 : (E != 0) = true := by simp [bne, h1]
        have hsw : w.heap.size ≤ wr.heap.size := hB.size
        have HB := Lib.hid hB
        have hbr : Below wr.heap.size wr wr := Below.refl _ _
        clear q1 q2 q3 hl HQ ht h1 h2 hB
        go_wp2_with fail
        ((with_reducible refine (HJ2.out).mono ?_); rintro _ y3 ⟨rfl, hb⟩)
        have hz := hb.size
        (try simp only [World.size_alloc, World.size_setCell, World.size_drew] at hz)
        have hB' : Below wr.heap.size wr y3 := by
            refine kb ?_ hb
            go_grown
        clear hb hz
        have hB := hB'; clear hB'
        have hsz := hB.size
        go_wp2_with fail
        ((with_reducible refine (HA.out _).mono ?_); rintro _ y5 ⟨rfl, hb⟩)
        have hz := hb.size
        (try simp only [World.size_alloc, World.size_setCell, World.size_drew] at hz)
        have hB' : Below wr.heap.size wr y5 := by
            refine kb ?_ hb
            go_grown
        clear hB hsz
        clear hb hz
        have hB := hB'; clear hB'
        have hsz := hB.size
        go_wp2
        go_ret
        exact ⟨rfl, HB.out.trans (Below.mono hB hsw)⟩
theorem texts_walk (l : List Tk) (v : Value) (w : World) (hv : HoldsT w v l) (hT : w.cell? ⟨5, 15, none⟩ = some (.int .u8 4)) : Calls Tryd.prog 4 #[v] w (LawEnd w) := by
  by_cases h : 30 < l.length
  · obtain ⟨p, c, rfl⟩ := hv.form
    exact texts_out p l.length c h w
  · exact texts_in l (by omega) v w hv hT
end Go.Proofs.YtbnmibkmddhniaaDoor
