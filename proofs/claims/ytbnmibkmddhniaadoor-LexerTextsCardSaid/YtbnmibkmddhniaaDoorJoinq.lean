/-
  Layer 6, the program: the text of tokens.
-/
import Derived.Test.YtbnmibkmddhniaaDoorJoinp
set_option linter.unusedSimpArgs false
set_option linter.unusedVariables false
namespace Go.Proofs.YtbnmibkmddhniaaDoor
open Go.RowKit Go.PlainAid

set_option maxRecDepth 100000 in
set_option maxHeartbeats 4000000 in
theorem joinp_c (l : List Tk) (hl : l.length ≤ 30) (ht : ∀ x ∈ l, x.t.length ≤ 100) (v : Value) (w : World) (hv : HoldsT w v l) (hT : w.cell? ⟨5, 15, none⟩ = some (.int .u8 4)) :
    Calls Tryd.prog 13 #[v] w fun e w' => e = .returned (.tuple #[.string (txB (joinR l none []).1), .int .i64 (joinR l none []).2]) ∧ Below w.heap.size w w' := by
  obtain ⟨R, hR⟩ : ∃ R, joinR l none [] = R := ⟨_, rfl⟩
  rw [hR]
  obtain ⟨p, c, rfl⟩ := hv.form
  have HV := Lib.hid hv
  have HR := Lib.hid hR
  have HL := Lib.hid hl
  have Ht := Lib.hid ht
  clear hv hR hl ht
  go_enter Tryd.func13, Tryd.ntmps13
  go_wp2
  go_loopw [11] (fun i wr => ∃ (k : Nat) (acc : List UInt8), i = .int .i64 (k : Int) ∧ Hid (k ≤ l.length ∧ joinR (l.drop k) (prevK l k) acc = R ∧ acc.length ≤ 101 * k) ∧ Hid (Lib.IsBuilderF 58 5 w.heap.size w.heap.size (Lib.byteCells acc) wr) ∧ Below w.heap.size w wr) (fun i _ => l.length - (intOf i).toNat)
  case atStart =>
    refine ⟨0, [], rfl, Lib.hid ⟨by omega, by rw [List.drop_zero]; exact HR.out, by simp⟩, Lib.hid ?_, by go_grown⟩
    exact Lib.IsBuilderF.of (Lib.fresh_isBuilder _ _ w)
  case round =>
    obtain ⟨k, acc, rfl, HQ, HBu, hB⟩ := hrel
    obtain ⟨q1, q2, q3⟩ := HQ.out
    have hl := HL.out
    by_cases hlt : k < l.length
    · have hd : decide ((k : Int) < (l.length : Int)) = true := decide_eq_true (by omega)
      have hin : (0 : Int) ≤ (k : Int) ∧ (k : Int) < (l.length : Int) := by omega
      have hx := List.getElem?_eq_getElem hlt
      have htx := Ht.out _ (List.getElem_mem hlt)
      have hpk := prevK_next l k _ hx
      have hTr := kc hB hT
      rcases (HV.out.below hB) with ⟨_, hh⟩ | ⟨g, o, cap, e1, hc, h1⟩
      · rw [hh] at hlt; exact absurd hlt (by simp)
      cases e1
      obtain ⟨a0, a1, a2, a3, a4⟩ := h1 k _ hx
      have hprev : (k = 0 ∧ prevK l k = none) ∨ (∃ y, 1 ≤ k ∧ prevK l k = some y ∧ wr.cell? ⟨g, o + (k - 1) * 5, none⟩ = some (.int .i64 y)) := by
        by_cases hk0 : k = 0
        · left; exact ⟨hk0, by unfold prevK; rw [if_pos hk0]⟩
        · right
          have hy : l[k - 1]? = some l[k - 1] := List.getElem?_eq_getElem (by omega)
          refine ⟨l[k - 1].k, by omega, ?_, (h1 (k - 1) _ hy).1⟩
          unfold prevK
          rw [if_neg hk0, hy]
          rfl
      rw [List.drop_eq_getElem_cons hlt] at q2
      clear h1 hx
      generalize l[k] = x at *
      obtain ⟨xk, xt, xn, xl, xc⟩ := x
      dsimp only at htx a0 a1 a2 a3 a4 hpk
      have HTx := Lib.hid (fun W h => textp_c xk xt xn xl xc htx W h)
      have htl := textL_len xk xt xn htx
      have hlg := klt a0
      generalize txB xt = XT at *
      have hsw : w.heap.size ≤ wr.heap.size := hB.size
      have HB := Lib.hid hB
      have hbr : Below wr.heap.size wr wr := Below.refl _ _
      by_cases he : textE xk xt xn = 0
      · have hstep : joinR (l.drop (k + 1)) (some xk) (acc ++ sepL (prevK l k) xk ++ textL xk xt xn) = R := by
          rw [← q2, joinR, if_neg (by rw [he]; simp)]
        rw [he] at HTx
        have hne : ∀ q : Int, (q == 4) = false → (q != 4) = true := fun q h => by unfold bne; rw [h]; rfl
        have HJ := Lib.hid (show k + 1 ≤ l.length ∧ k < l.length ∧ acc.length ≤ 101 * k ∧ k ≤ 30 from ⟨by omega, hlt, q3, by omega⟩)
        have hnew : (joinR (l.drop (k + 1)) (prevK l (k + 1)) (acc ++ sepL (prevK l k) xk ++ textL xk xt xn) = R) := by rw [hpk]; exact hstep
        have HNew := Lib.hid hnew
        have HTl := Lib.hid htl
        have hi1 : (k : Int) + 1 = ((k + 1 : Nat) : Int) := by omega
        have w1 : IntKind.i64.wrap ((k : Int) + 1) = (k : Int) + 1 := IntWalk.i64_in _ (by omega)
        have w2 : IntKind.i64.wrap ((k : Int) - 1) = (k : Int) - 1 := IntWalk.i64_in _ (by omega)
        obtain ⟨TL, hTL⟩ : ∃ TL, textL xk xt xn = TL := ⟨_, rfl⟩
        rw [hTL] at HTx HNew HTl
        clear hstep hnew he htl hi1 htx hpk hTL
        rcases hprev with ⟨hk0, hpv⟩ | ⟨y, hk1, hpv, hcell⟩
        · have HSep := Lib.hid (show sepL (prevK l k) xk = [] from by rw [hpv]; rfl)
          have c1 : decide ((0 : Int) < (k : Int)) = false := decide_eq_false (by omega)
          have c2 : ¬ 0 < k := by omega
          clear q1 q2 q3 hl HQ hB hpv hk0
          go_wp2_with fail
          ((with_reducible refine (HTx.out _ (kc ((Below.refl _ wr).alloc (Nat.le_refl _) _) hTr)).mono ?_); rintro _ u1 ⟨rfl, hb⟩)
          have T : u1.cell? ⟨wr.heap.size, 0, none⟩ = some (.int .i64 xk) ∧ u1.cell? ⟨wr.heap.size, 1, none⟩ = some (.string XT) ∧ u1.cell? ⟨wr.heap.size, 2, none⟩ = some (.int .i64 xn) ∧ u1.cell? ⟨wr.heap.size, 3, none⟩ = some (.int .i64 xl) ∧ u1.cell? ⟨wr.heap.size, 4, none⟩ = some (.int .i64 xc) := by
              refine ⟨?_, ?_, ?_, ?_, ?_⟩ <;> refine kc hb ?_ <;> (go_simp; first | done | rfl)
          have hz := hb.size
          (try simp only [World.size_alloc, World.size_setCell, World.size_drew] at hz)
          have hlt' : wr.heap.size < u1.heap.size := by omega
          have hB' : Below wr.heap.size wr u1 := by
              refine kb ?_ hb
              go_grown
          clear hb hz
          obtain ⟨ht_0, ht_1, ht_2, ht_3, ht_4⟩ := T
          have hlt := hlt'; clear hlt'
          have hnt0 : ¬ (wr.heap.size = u1.heap.size) := by omega
          have hnt1 : ¬ (wr.heap.size = u1.heap.size + 1) := by omega
          have hkt1 : wr.heap.size < u1.heap.size + 1 := by omega
          have hnt2 : ¬ (wr.heap.size = u1.heap.size + 1 + 1) := by omega
          have hkt2 : wr.heap.size < u1.heap.size + 1 + 1 := by omega
          have hB := hB'; clear hB'
          have hsz := hB.size
          go_wp2_with fail
          refine (Tryd.writes w.heap.size w.heap.size acc TL u1 (builder_below HBu.out hB) ?_ ?_).mono ?_
          · have := HJ.out; have := HTl.out; omega
          · have := hB.size; omega
          rintro _ u3 ⟨rfl, hBu3, hb3⟩
          have HBn := Lib.hid hBu3
          have hBf : Below w.heap.size w u3 := (HB.out.trans (Below.mono hB hsw)).trans hb3
          clear hBu3 hb3
          go_wp2
          go_roundw
          case rel => exact ⟨k + 1, acc ++ TL, by go_num, Lib.hid ⟨HJ.out.1, by have h := HNew.out; rw [HSep.out, List.append_nil] at h; exact h, by have := HJ.out; have := HTl.out; rw [List.length_append]; omega⟩, HBn, hBf⟩
          case measure => have := HJ.out; simp [intOf]; omega
        · have hq4 : (y == 4) = true → sepL (prevK l k) xk = [] := fun h => by
            rw [hpv]
            show (if _ then _ else _) = _
            rw [if_neg (fun h2 => h2.1 (beq_iff_eq.1 h))]
          have hx4 : (xk == 4) = true → sepL (prevK l k) xk = [] := fun h => by
            rw [hpv]
            show (if _ then _ else _) = _
            rw [if_neg (fun h2 => h2.2 (beq_iff_eq.1 h))]
          have hb4 : (y == 4) = false → (xk == 4) = false → sepL (prevK l k) xk = [32] := fun h h3 => by
            rw [hpv]
            show (if _ then _ else _) = _
            rw [if_pos ⟨beq_eq_false_iff_ne.1 h, beq_eq_false_iff_ne.1 h3⟩]
          cases hy4 : (y == 4)
          · have n4 := hne y hy4
            cases hk4 : (xk == 4)
            · have m4 := hne xk hk4
              have HSep := Lib.hid (hb4 hy4 hk4)
              clear hq4 hx4 hb4 hne
              have c1 : decide ((0 : Int) < (k : Int)) = true := decide_eq_true (by omega)
              have c2 : 0 < k := by omega
              have hin1 : (0 : Int) ≤ (k : Int) - 1 ∧ (k : Int) - 1 < (l.length : Int) := by omega
              have hin2 : (1 : Int) ≤ (k : Int) := by omega
              have hin3 : 1 ≤ k := by omega
              have hin4 : k - 1 < l.length := by omega
              have hlg2 := klt hcell
              clear q1 q2 q3 hl HQ hB
              have hy_0 := hcell
              clear hpv hk1
              go_wp2_with fail
              ((with_reducible refine (HTx.out _ (kc ((Below.refl _ wr).alloc (Nat.le_refl _) _) hTr)).mono ?_); rintro _ u1 ⟨rfl, hb⟩)
              have T : u1.cell? ⟨wr.heap.size, 0, none⟩ = some (.int .i64 xk) ∧ u1.cell? ⟨wr.heap.size, 1, none⟩ = some (.string XT) ∧ u1.cell? ⟨wr.heap.size, 2, none⟩ = some (.int .i64 xn) ∧ u1.cell? ⟨wr.heap.size, 3, none⟩ = some (.int .i64 xl) ∧ u1.cell? ⟨wr.heap.size, 4, none⟩ = some (.int .i64 xc) ∧ u1.cell? ⟨g, o + (k - 1) * 5, none⟩ = some (.int .i64 y) := by
                  refine ⟨?_, ?_, ?_, ?_, ?_, ?_⟩ <;> refine kc hb ?_ <;> (go_simp; first | done | rfl)
              have hz := hb.size
              (try simp only [World.size_alloc, World.size_setCell, World.size_drew] at hz)
              have hlt' : wr.heap.size < u1.heap.size := by omega
              have hly' : g < u1.heap.size := by omega
              have hB' : Below wr.heap.size wr u1 := by
                  refine kb ?_ hb
                  go_grown
              clear hb hz
              obtain ⟨ht_0, ht_1, ht_2, ht_3, ht_4, hy_0⟩ := T
              have hlt := hlt'; clear hlt'
              have hly := hly'; clear hly'
              have hnt0 : ¬ (wr.heap.size = u1.heap.size) := by omega
              have hnt1 : ¬ (wr.heap.size = u1.heap.size + 1) := by omega
              have hkt1 : wr.heap.size < u1.heap.size + 1 := by omega
              have hnt2 : ¬ (wr.heap.size = u1.heap.size + 1 + 1) := by omega
              have hkt2 : wr.heap.size < u1.heap.size + 1 + 1 := by omega
              have hny0 : ¬ (g = u1.heap.size) := by omega
              have hny1 : ¬ (g = u1.heap.size + 1) := by omega
              have hky1 : g < u1.heap.size + 1 := by omega
              have hny2 : ¬ (g = u1.heap.size + 1 + 1) := by omega
              have hky2 : g < u1.heap.size + 1 + 1 := by omega
              have hB := hB'; clear hB'
              have hsz := hB.size
              go_wp2_with fail
              refine (Tryd.writeb w.heap.size w.heap.size acc u1 (builder_below HBu.out hB) ?_ ?_).mono ?_
              · have := HJ.out; omega
              · have := hB.size; omega
              rintro _ u2 ⟨rfl, hBu2, hb2⟩
              have HBn2 := Lib.hid hBu2
              have hBx : Below w.heap.size w u2 := (HB.out.trans (Below.mono hB hsw)).trans hb2
              clear hBu2 hb2
              go_wp2_with fail
              refine (Tryd.writes w.heap.size w.heap.size (acc ++ [32]) TL u2 HBn2.out ?_ ?_).mono ?_
              · have := HJ.out; have := HTl.out; rw [List.length_append]; simp only [List.length_cons, List.length_nil]; omega
              · exact hBx.size
              rintro _ u3 ⟨rfl, hBu3, hb3⟩
              have HBn := Lib.hid hBu3
              have hBf : Below w.heap.size w u3 := hBx.trans hb3
              clear hBu3 hb3
              go_wp2
              go_roundw
              case rel => exact ⟨k + 1, acc ++ [32] ++ TL, by go_num, Lib.hid ⟨HJ.out.1, by rw [← HSep.out]; exact HNew.out, by have := HJ.out; have := HTl.out; rw [List.length_append, List.length_append]; simp only [List.length_cons, List.length_nil]; omega⟩, HBn, hBf⟩
              case measure => have := HJ.out; simp [intOf]; omega
            · have m4 : (xk != 4) = false := by unfold bne; rw [hk4]; rfl
              have HSep := Lib.hid (hx4 hk4)
              clear hq4 hx4 hb4 hne
              have c1 : decide ((0 : Int) < (k : Int)) = true := decide_eq_true (by omega)
              have c2 : 0 < k := by omega
              have hin1 : (0 : Int) ≤ (k : Int) - 1 ∧ (k : Int) - 1 < (l.length : Int) := by omega
              have hin2 : (1 : Int) ≤ (k : Int) := by omega
              have hin3 : 1 ≤ k := by omega
              have hin4 : k - 1 < l.length := by omega
              have hlg2 := klt hcell
              clear q1 q2 q3 hl HQ hB
              clear hpv hk1
              go_wp2_with fail
              ((with_reducible refine (HTx.out _ (kc ((Below.refl _ wr).alloc (Nat.le_refl _) _) hTr)).mono ?_); rintro _ u1 ⟨rfl, hb⟩)
              have T : u1.cell? ⟨wr.heap.size, 0, none⟩ = some (.int .i64 xk) ∧ u1.cell? ⟨wr.heap.size, 1, none⟩ = some (.string XT) ∧ u1.cell? ⟨wr.heap.size, 2, none⟩ = some (.int .i64 xn) ∧ u1.cell? ⟨wr.heap.size, 3, none⟩ = some (.int .i64 xl) ∧ u1.cell? ⟨wr.heap.size, 4, none⟩ = some (.int .i64 xc) ∧ u1.cell? ⟨g, o + (k - 1) * 5, none⟩ = some (.int .i64 y) := by
                  refine ⟨?_, ?_, ?_, ?_, ?_, ?_⟩ <;> refine kc hb ?_ <;> (go_simp; first | done | rfl)
              have hz := hb.size
              (try simp only [World.size_alloc, World.size_setCell, World.size_drew] at hz)
              have hlt' : wr.heap.size < u1.heap.size := by omega
              have hly' : g < u1.heap.size := by omega
              have hB' : Below wr.heap.size wr u1 := by
                  refine kb ?_ hb
                  go_grown
              clear hb hz
              obtain ⟨ht_0, ht_1, ht_2, ht_3, ht_4, hy_0⟩ := T
              have hlt := hlt'; clear hlt'
              have hly := hly'; clear hly'
              have hnt0 : ¬ (wr.heap.size = u1.heap.size) := by omega
              have hnt1 : ¬ (wr.heap.size = u1.heap.size + 1) := by omega
              have hkt1 : wr.heap.size < u1.heap.size + 1 := by omega
              have hnt2 : ¬ (wr.heap.size = u1.heap.size + 1 + 1) := by omega
              have hkt2 : wr.heap.size < u1.heap.size + 1 + 1 := by omega
              have hny0 : ¬ (g = u1.heap.size) := by omega
              have hny1 : ¬ (g = u1.heap.size + 1) := by omega
              have hky1 : g < u1.heap.size + 1 := by omega
              have hny2 : ¬ (g = u1.heap.size + 1 + 1) := by omega
              have hky2 : g < u1.heap.size + 1 + 1 := by omega
              have hB := hB'; clear hB'
              have hsz := hB.size
              go_wp2_with fail
              refine (Tryd.writes w.heap.size w.heap.size acc TL u1 (builder_below HBu.out hB) ?_ ?_).mono ?_
              · have := HJ.out; have := HTl.out; omega
              · have := hB.size; omega
              rintro _ u3 ⟨rfl, hBu3, hb3⟩
              have HBn := Lib.hid hBu3
              have hBf : Below w.heap.size w u3 := (HB.out.trans (Below.mono hB hsw)).trans hb3
              clear hBu3 hb3
              go_wp2
              go_roundw
              case rel => exact ⟨k + 1, acc ++ TL, by go_num, Lib.hid ⟨HJ.out.1, by have h := HNew.out; rw [HSep.out, List.append_nil] at h; exact h, by have := HJ.out; have := HTl.out; rw [List.length_append]; omega⟩, HBn, hBf⟩
              case measure => have := HJ.out; simp [intOf]; omega
          · have n4 : (y != 4) = false := by unfold bne; rw [hy4]; rfl
            have HSep := Lib.hid (hq4 hy4)
            clear hq4 hx4 hb4 hne
            have c1 : decide ((0 : Int) < (k : Int)) = true := decide_eq_true (by omega)
            have c2 : 0 < k := by omega
            have hin1 : (0 : Int) ≤ (k : Int) - 1 ∧ (k : Int) - 1 < (l.length : Int) := by omega
            have hin2 : (1 : Int) ≤ (k : Int) := by omega
            have hin3 : 1 ≤ k := by omega
            have hin4 : k - 1 < l.length := by omega
            have hlg2 := klt hcell
            clear q1 q2 q3 hl HQ hB
            clear hpv hk1
            go_wp2_with fail
            ((with_reducible refine (HTx.out _ (kc ((Below.refl _ wr).alloc (Nat.le_refl _) _) hTr)).mono ?_); rintro _ u1 ⟨rfl, hb⟩)
            have T : u1.cell? ⟨wr.heap.size, 0, none⟩ = some (.int .i64 xk) ∧ u1.cell? ⟨wr.heap.size, 1, none⟩ = some (.string XT) ∧ u1.cell? ⟨wr.heap.size, 2, none⟩ = some (.int .i64 xn) ∧ u1.cell? ⟨wr.heap.size, 3, none⟩ = some (.int .i64 xl) ∧ u1.cell? ⟨wr.heap.size, 4, none⟩ = some (.int .i64 xc) ∧ u1.cell? ⟨g, o + (k - 1) * 5, none⟩ = some (.int .i64 y) := by
                refine ⟨?_, ?_, ?_, ?_, ?_, ?_⟩ <;> refine kc hb ?_ <;> (go_simp; first | done | rfl)
            have hz := hb.size
            (try simp only [World.size_alloc, World.size_setCell, World.size_drew] at hz)
            have hlt' : wr.heap.size < u1.heap.size := by omega
            have hly' : g < u1.heap.size := by omega
            have hB' : Below wr.heap.size wr u1 := by
                refine kb ?_ hb
                go_grown
            clear hb hz
            obtain ⟨ht_0, ht_1, ht_2, ht_3, ht_4, hy_0⟩ := T
            have hlt := hlt'; clear hlt'
            have hly := hly'; clear hly'
            have hnt0 : ¬ (wr.heap.size = u1.heap.size) := by omega
            have hnt1 : ¬ (wr.heap.size = u1.heap.size + 1) := by omega
            have hkt1 : wr.heap.size < u1.heap.size + 1 := by omega
            have hnt2 : ¬ (wr.heap.size = u1.heap.size + 1 + 1) := by omega
            have hkt2 : wr.heap.size < u1.heap.size + 1 + 1 := by omega
            have hny0 : ¬ (g = u1.heap.size) := by omega
            have hny1 : ¬ (g = u1.heap.size + 1) := by omega
            have hky1 : g < u1.heap.size + 1 := by omega
            have hny2 : ¬ (g = u1.heap.size + 1 + 1) := by omega
            have hky2 : g < u1.heap.size + 1 + 1 := by omega
            have hB := hB'; clear hB'
            have hsz := hB.size
            go_wp2_with fail
            refine (Tryd.writes w.heap.size w.heap.size acc TL u1 (builder_below HBu.out hB) ?_ ?_).mono ?_
            · have := HJ.out; have := HTl.out; omega
            · have := hB.size; omega
            rintro _ u3 ⟨rfl, hBu3, hb3⟩
            have HBn := Lib.hid hBu3
            have hBf : Below w.heap.size w u3 := (HB.out.trans (Below.mono hB hsw)).trans hb3
            clear hBu3 hb3
            go_wp2
            go_roundw
            case rel => exact ⟨k + 1, acc ++ TL, by go_num, Lib.hid ⟨HJ.out.1, by have h := HNew.out; rw [HSep.out, List.append_nil] at h; exact h, by have := HJ.out; have := HTl.out; rw [List.length_append]; omega⟩, HBn, hBf⟩
            case measure => have := HJ.out; simp [intOf]; omega
      · have HF := Lib.hid (show R = ([], textE xk xt xn) from by rw [← q2, joinR, if_pos he])
        have he2 : (textE xk xt xn != 0) = true := by simp [bne, he]
        generalize textE xk xt xn = E at *
        generalize txB (textL xk xt xn) = TX at *
        clear q1 q2 q3 hl HQ he htx htl hpk hprev HBu hB
        go_wp2_with fail
        ((with_reducible refine (HTx.out _ (kc ((Below.refl _ wr).alloc (Nat.le_refl _) _) hTr)).mono ?_); rintro _ u1 ⟨rfl, hb⟩)
        have T : u1.cell? ⟨wr.heap.size, 0, none⟩ = some (.int .i64 xk) ∧ u1.cell? ⟨wr.heap.size, 1, none⟩ = some (.string XT) ∧ u1.cell? ⟨wr.heap.size, 2, none⟩ = some (.int .i64 xn) ∧ u1.cell? ⟨wr.heap.size, 3, none⟩ = some (.int .i64 xl) ∧ u1.cell? ⟨wr.heap.size, 4, none⟩ = some (.int .i64 xc) := by
            refine ⟨?_, ?_, ?_, ?_, ?_⟩ <;> refine kc hb ?_ <;> (go_simp; first | done | rfl)
        have hz := hb.size
        (try simp only [World.size_alloc, World.size_setCell, World.size_drew] at hz)
        have hlt' : wr.heap.size < u1.heap.size := by omega
        have hB' : Below wr.heap.size wr u1 := by
            refine kb ?_ hb
            go_grown
        clear hb hz
        obtain ⟨ht_0, ht_1, ht_2, ht_3, ht_4⟩ := T
        have hlt := hlt'; clear hlt'
        have hnt0 : ¬ (wr.heap.size = u1.heap.size) := by omega
        have hnt1 : ¬ (wr.heap.size = u1.heap.size + 1) := by omega
        have hkt1 : wr.heap.size < u1.heap.size + 1 := by omega
        have hnt2 : ¬ (wr.heap.size = u1.heap.size + 1 + 1) := by omega
        have hkt2 : wr.heap.size < u1.heap.size + 1 + 1 := by omega
        have hB := hB'; clear hB'
        have hsz := hB.size
        go_wp2
        refine bodyPost_ret (v := .tuple #[.string ⟨#[]⟩, .int .i64 E]) (by simp [results, Tryd.results13, go_sem]) rfl ⟨by rw [HF.out], HB.out.trans (Below.mono hB hsw)⟩
    · have hd : decide ((k : Int) < (l.length : Int)) = false := decide_eq_false (by omega)
      have HF := Lib.hid (show R = (acc, 0) from by rw [← q2, List.drop_eq_nil_of_le (by omega)]; rfl)
      clear q1 q2 q3 hl HQ
      go_wp2_with fail
      refine (Tryd.Builder_String_any_k w.heap.size w.heap.size acc wr HBu.out hB.size).mono ?_
      rintro _ u ⟨rfl, _, hb, _⟩
      have hB2 := hB.trans hb
      clear hB hb
      go_wp2
      refine bodyPost_ret (v := .tuple #[.string (txB acc), .int .i64 0]) (by simp [results, Tryd.results13, go_sem]) rfl ⟨by rw [HF.out], hB2⟩
end Go.Proofs.YtbnmibkmddhniaaDoor
