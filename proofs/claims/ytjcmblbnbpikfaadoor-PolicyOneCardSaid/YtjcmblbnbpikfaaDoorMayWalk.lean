/-
  PolicyMay, walked.
-/
import Derived.Test.YtjcmblbnbpikfaaDoorPlace
import Derived.Test.YtjcmblbnbpikfaaDoorSame
import Derived.Test.YtjcmblbnbpikfaaDoorLawKit
set_option linter.unusedSimpArgs false
set_option linter.unusedVariables false
namespace Go.Proofs.YtjcmblbnbpikfaaDoor
open Go.RowKit Go.PlainAid

theorem holdsP_of {w : World} {v1 v2 : Value} {s k : List Sp} {d t : Int} (h1 : HoldsS w v1 s) (h2 : HoldsS w v2 k) : HoldsP w (.agg #[v1, v2, .int .i64 d, .int .i64 t]) ⟨s, k, d, t⟩ := ⟨_, _, rfl, h1, h2⟩
set_option maxRecDepth 100000 in
theorem may_out (l : List UInt8) (h : 3000 < l.length) (w : World) (hT : w.cell? ⟨5, 15, none⟩ = some (.int .u8 4)) : Calls Tryd.prog 3 #[.string (txB l)] w (LawEnd w) := by
  have hz := txB_size l
  have d1 : decide ((3000 : Int) < ((txB l).size : Int)) = true := decide_eq_true (by omega)
  have HA := Lib.hid (fun W (hb : Below w.heap.size w W) => awake7_c W (kc hb hT))
  generalize txB l = T at *
  clear h hz
  go_enter Tryd.func3, Tryd.ntmps3
  go_wp2_with fail
  refine (HA.out _ (by go_grown)).mono ?_
  rintro _ u ⟨rfl, hb⟩
  go_wp2
  go_ret
  exact ⟨rfl, hb⟩
set_option maxRecDepth 100000 in
theorem may_err (l : List UInt8) (h : l.length ≤ 3000) (hE : (parseM l).e ≠ 0) (w : World) (hT : w.cell? ⟨5, 15, none⟩ = some (.int .u8 4)) : Calls Tryd.prog 3 #[.string (txB l)] w (LawEnd w) := by
  have hz := txB_size l
  have d1 : decide ((3000 : Int) < ((txB l).size : Int)) = false := decide_eq_false (by omega)
  have HA := Lib.hid (fun W (hb : Below w.heap.size w W) => awake7_c W (kc hb hT))
  have HS := Lib.hid (fun W => parse_c l W)
  obtain ⟨e1, e2, e3⟩ := parse_err (by omega) hE
  generalize parseM l = O at *
  obtain ⟨oe, oli, oco, op⟩ := O
  dsimp only at hE e1 e2 e3
  subst e1
  unfold ParseEnd noPol at HS
  dsimp only at HS
  have n1 : (oe != 0) = true := by simp [bne, hE]
  have n2 : decide (oe = 0) = false := decide_eq_false hE
  have n3 : decide (1 ≤ oli) = true := decide_eq_true e2
  have n4 : decide (1 ≤ oco) = true := decide_eq_true e3
  generalize txB l = T at *
  clear h hz hE
  go_enter Tryd.func3, Tryd.ntmps3
  go_wp2_with fail
  refine (HS.out _).mono ?_
  rintro _ u ⟨v1, v2, rfl, h1, h2, _, _, hB⟩
  obtain ⟨p1, c1, rfl⟩ := h1.form
  obtain ⟨p2, c2, rfl⟩ := h2.form
  simp only [List.length_nil]
  have hsz := hB.size
  clear h1 h2
  go_wp2_with fail
  ((with_reducible refine (HA.out _ (by go_grown)).mono ?_); rintro _ y ⟨rfl, hb⟩)
  have T : y.cell? ⟨u.heap.size, 0, none⟩ = some (.slice p1 0 c1) ∧ y.cell? ⟨u.heap.size, 1, none⟩ = some (.slice p2 0 c2) ∧ y.cell? ⟨u.heap.size, 2, none⟩ = some (.int .i64 0) ∧ y.cell? ⟨u.heap.size, 3, none⟩ = some (.int .i64 0) := by
      refine ⟨?_, ?_, ?_, ?_⟩ <;> refine kc hb ?_ <;> (go_simp; first | done | rfl)
  have hz := hb.size
  (try simp only [World.size_alloc, World.size_setCell, World.size_drew] at hz)
  have hla' : u.heap.size < y.heap.size := by omega
  have hB' : Below w.heap.size w y := by
      refine kb ?_ hb
      go_grown
  clear hb hz
  obtain ⟨ha_0, ha_1, ha_2, ha_3⟩ := T
  have hla := hla'; clear hla'
  have hna0 : ¬ (u.heap.size = y.heap.size) := by omega
  have hna1 : ¬ (u.heap.size = y.heap.size + 1) := by omega
  have hka1 : u.heap.size < y.heap.size + 1 := by omega
  have hna2 : ¬ (u.heap.size = y.heap.size + 1 + 1) := by omega
  have hka2 : u.heap.size < y.heap.size + 1 + 1 := by omega
  have hB := hB'; clear hB'
  have hsz := hB.size
  go_wp2
  go_ret
  exact ⟨rfl, hB⟩
set_option maxRecDepth 100000 in
set_option maxHeartbeats 2000000 in
theorem may_ok (l : List UInt8) (h : l.length ≤ 3000) (hE : (parseM l).e = 0) (w : World) (hT : w.cell? ⟨5, 15, none⟩ = some (.int .u8 4)) : Calls Tryd.prog 3 #[.string (txB l)] w (LawEnd w) := by
  have hz := txB_size l
  have d1 : decide ((3000 : Int) < ((txB l).size : Int)) = false := decide_eq_false (by omega)
  have HA := Lib.hid (fun W (hb : Below w.heap.size w W) => awake7_c W (kc hb hT))
  have HS := Lib.hid (fun W => parse_c l W)
  obtain ⟨e1, e2, e3, e4, e5⟩ := parse_ok hE
  generalize parseM l = O at *
  obtain ⟨oe, oli, oco, P⟩ := O
  dsimp only at hE e1 e2 e3 e4 e5
  subst hE; subst e4; subst e5
  have hlen := check_len e1
  have hback := back e1 e2
  rw [e3] at hback
  have hpr := print_ok e1 e2
  have HPl := Lib.hid (fun v W hv (hb : Below w.heap.size w W) => print_c P ⟨by omega, by omega⟩ e2 v W hv (kc hb hT))
  have HCl := Lib.hid (fun v W hv => check_c P ⟨by omega, by omega⟩ v W hv)
  have HMl := Lib.hid (fun v1 v2 W h1 h2 => same_c P P ⟨by omega, by omega⟩ ⟨by omega, by omega⟩ v1 v2 W h1 h2)
  rw [e1] at HCl
  rw [hpr] at HPl hback
  dsimp only at HPl hback
  generalize txtX ((specsP (sortP P)).map Spec.core) = L2 at *
  have HS2 := Lib.hid (fun W => parse_c L2 W)
  rw [hback] at HS2
  unfold ParseEnd at HS HS2
  dsimp only at HS HS2
  simp only [decide_true] at HMl
  obtain ⟨ps, pk, pd, pt⟩ := P
  dsimp only at HS HS2
  generalize txB L2 = T2 at *
  generalize txB l = T at *
  clear h hz e1 e2 e3 hlen hback hpr
  go_enter Tryd.func3, Tryd.ntmps3
  go_wp2_with fail
  refine (HS.out _).mono ?_
  rintro _ u ⟨v1, v2, rfl, h1, h2, _, _, hB⟩
  obtain ⟨p1, c1, rfl⟩ := h1.form
  obtain ⟨p2, c2, rfl⟩ := h2.form
  have hsz := hB.size
  have HP1 := Lib.hid (fun W (hb : Below u.heap.size u W) => (show HoldsP W (.agg #[.slice p1 ps.length c1, .slice p2 pk.length c2, .int .i64 pd, .int .i64 pt]) ⟨ps, pk, pd, pt⟩ from holdsP_of (h1.below hb) (h2.below hb)))
  clear h1 h2
  obtain ⟨n1, hn1⟩ : ∃ n, ps.length = n := ⟨_, rfl⟩
  obtain ⟨n2, hn2⟩ : ∃ n, pk.length = n := ⟨_, rfl⟩
  rw [hn1, hn2] at HP1
  have HNN := Lib.hid (And.intro hn1 hn2)
  rw [hn1, hn2]
  clear hn1 hn2
  have HBu := Lib.hid hB
  have hTu := kc hB hT
  have HAu := Lib.hid (fun W (hb : Below u.heap.size u W) => awake7_c W (kc hb hTu))
  have HPu := Lib.hid (fun v W hv (hb : Below u.heap.size u W) => HPl.out v W hv (hB.trans (hb.mono hB.size)))
  clear HA HPl
  have hbu : Below u.heap.size u u := Below.refl _ _
  clear hB hsz
  go_wp2_with fail
  ((with_reducible refine (HPu.out _ _ (HP1.out _ (by go_grown)) (by go_grown)).mono ?_); rintro _ y1 ⟨rfl, hb⟩)
  have T : y1.cell? ⟨u.heap.size, 0, none⟩ = some (.slice p1 n1 c1) ∧ y1.cell? ⟨u.heap.size, 1, none⟩ = some (.slice p2 n2 c2) ∧ y1.cell? ⟨u.heap.size, 2, none⟩ = some (.int .i64 pd) ∧ y1.cell? ⟨u.heap.size, 3, none⟩ = some (.int .i64 pt) ∧ y1.cell? ⟨u.heap.size + 1, 0, none⟩ = some (.int .i64 0) ∧ y1.cell? ⟨u.heap.size + 1, 1, none⟩ = some (.int .i64 0) := by
      refine ⟨?_, ?_, ?_, ?_, ?_, ?_⟩ <;> refine kc hb ?_ <;> (go_simp; first | done | rfl)
  have hz := hb.size
  (try simp only [World.size_alloc, World.size_setCell, World.size_drew] at hz)
  have hla' : u.heap.size < y1.heap.size := by omega
  have hlb' : u.heap.size + 1 < y1.heap.size := by omega
  have hB' : Below u.heap.size u y1 := by
      refine kb ?_ hb
      go_grown
  clear hb hz
  obtain ⟨ha_0, ha_1, ha_2, ha_3, hb_0, hb_1⟩ := T
  have hla := hla'; clear hla'
  have hlb := hlb'; clear hlb'
  have hna0 : ¬ (u.heap.size = y1.heap.size) := by omega
  have hna1 : ¬ (u.heap.size = y1.heap.size + 1) := by omega
  have hka1 : u.heap.size < y1.heap.size + 1 := by omega
  have hna2 : ¬ (u.heap.size = y1.heap.size + 1 + 1) := by omega
  have hka2 : u.heap.size < y1.heap.size + 1 + 1 := by omega
  have hnb0 : ¬ (u.heap.size + 1 = y1.heap.size) := by omega
  have hkb1 : u.heap.size < y1.heap.size := by omega
  have hB := hB'; clear hB'
  have hsz := hB.size
  go_wp2_with fail
  ((with_reducible refine (HS2.out _).mono ?_); rintro _ y2 ⟨v3, v4, rfl, h3, h4, _, _, hb⟩)
  have hs_y2 := Lib.hid hb
  have T : y2.cell? ⟨u.heap.size, 0, none⟩ = some (.slice p1 n1 c1) ∧ y2.cell? ⟨u.heap.size, 1, none⟩ = some (.slice p2 n2 c2) ∧ y2.cell? ⟨u.heap.size, 2, none⟩ = some (.int .i64 pd) ∧ y2.cell? ⟨u.heap.size, 3, none⟩ = some (.int .i64 pt) ∧ y2.cell? ⟨u.heap.size + 1, 0, none⟩ = some (.int .i64 0) ∧ y2.cell? ⟨u.heap.size + 1, 1, none⟩ = some (.int .i64 0) := by
      refine ⟨?_, ?_, ?_, ?_, ?_, ?_⟩ <;> refine kc hb ?_ <;> (go_simp; first | done | rfl)
  have hz := hb.size
  (try simp only [World.size_alloc, World.size_setCell, World.size_drew] at hz)
  have hla' : u.heap.size < y2.heap.size := by omega
  have hlb' : u.heap.size + 1 < y2.heap.size := by omega
  have hB' : Below u.heap.size u y2 := by
      refine kb ?_ hb
      go_grown
  clear ha_0 ha_1 ha_2 ha_3 hb_0 hb_1 hla hlb hna0 hna1 hka1 hna2 hka2 hnb0 hkb1 hB hsz
  clear hb hz
  obtain ⟨ha_0, ha_1, ha_2, ha_3, hb_0, hb_1⟩ := T
  have hla := hla'; clear hla'
  have hlb := hlb'; clear hlb'
  have hna0 : ¬ (u.heap.size = y2.heap.size) := by omega
  have hna1 : ¬ (u.heap.size = y2.heap.size + 1) := by omega
  have hka1 : u.heap.size < y2.heap.size + 1 := by omega
  have hna2 : ¬ (u.heap.size = y2.heap.size + 1 + 1) := by omega
  have hka2 : u.heap.size < y2.heap.size + 1 + 1 := by omega
  have hnb0 : ¬ (u.heap.size + 1 = y2.heap.size) := by omega
  have hkb1 : u.heap.size < y2.heap.size := by omega
  have hB := hB'; clear hB'
  have hsz := hB.size
  obtain ⟨p3, c3, rfl⟩ := h3.form
  obtain ⟨p4, c4, rfl⟩ := h4.form
  rw [HNN.out.1] at h3 ⊢
  rw [HNN.out.2] at h4 ⊢
  have HP2 := Lib.hid (fun W (hb : Below y2.heap.size y2 W) => (show HoldsP W (.agg #[.slice p3 n1 c3, .slice p4 n2 c4, .int .i64 pd, .int .i64 pt]) ⟨ps, pk, pd, pt⟩ from holdsP_of (h3.below hb) (h4.below hb)))
  clear h3 h4
  have hyy : Below y2.heap.size y2 y2 := Below.refl _ _
  have HBy := Lib.hid hB
  have HPa := Lib.hid (fun W (hb : Below y2.heap.size y2 W) => HP1.out W (HBy.out.trans (hb.mono HBy.out.size)))
  have HAy := Lib.hid (fun W (hb : Below y2.heap.size y2 W) => HAu.out W (HBy.out.trans (hb.mono HBy.out.size)))
  clear hs_y2 HAu HP1
  have HBB := Lib.hid (HBu.out.trans (hB.mono HBu.out.size))
  clear HBu
  clear hB hsz
  have hB := hyy
  have hsz := Nat.le_refl y2.heap.size
  go_wp2_with fail
  ((with_reducible refine (HCl.out _ _ (HPa.out _ (by go_grown))).mono ?_); rintro _ y3 ⟨rfl, hb⟩)
  have T : y3.cell? ⟨u.heap.size, 0, none⟩ = some (.slice p1 n1 c1) ∧ y3.cell? ⟨u.heap.size, 1, none⟩ = some (.slice p2 n2 c2) ∧ y3.cell? ⟨u.heap.size, 2, none⟩ = some (.int .i64 pd) ∧ y3.cell? ⟨u.heap.size, 3, none⟩ = some (.int .i64 pt) ∧ y3.cell? ⟨y2.heap.size, 0, none⟩ = some (.slice p3 n1 c3) ∧ y3.cell? ⟨y2.heap.size, 1, none⟩ = some (.slice p4 n2 c4) ∧ y3.cell? ⟨y2.heap.size, 2, none⟩ = some (.int .i64 pd) ∧ y3.cell? ⟨y2.heap.size, 3, none⟩ = some (.int .i64 pt) := by
      refine ⟨?_, ?_, ?_, ?_, ?_, ?_, ?_, ?_⟩ <;> refine kc hb ?_ <;> (go_simp; first | done | rfl)
  have hz := hb.size
  (try simp only [World.size_alloc, World.size_setCell, World.size_drew] at hz)
  have hla' : u.heap.size < y3.heap.size := by omega
  have hlc' : y2.heap.size < y3.heap.size := by omega
  have hB' : Below y2.heap.size y2 y3 := by
      refine kb ?_ hb
      go_grown
  clear ha_0 ha_1 ha_2 ha_3 hb_0 hb_1 hla hlb hna0 hna1 hka1 hna2 hka2 hnb0 hkb1 hB hsz
  clear hb hz
  obtain ⟨ha_0, ha_1, ha_2, ha_3, hc_0, hc_1, hc_2, hc_3⟩ := T
  have hla := hla'; clear hla'
  have hlc := hlc'; clear hlc'
  have hna0 : ¬ (u.heap.size = y3.heap.size) := by omega
  have hna1 : ¬ (u.heap.size = y3.heap.size + 1) := by omega
  have hka1 : u.heap.size < y3.heap.size + 1 := by omega
  have hna2 : ¬ (u.heap.size = y3.heap.size + 1 + 1) := by omega
  have hka2 : u.heap.size < y3.heap.size + 1 + 1 := by omega
  have hnc0 : ¬ (y2.heap.size = y3.heap.size) := by omega
  have hnc1 : ¬ (y2.heap.size = y3.heap.size + 1) := by omega
  have hkc1 : y2.heap.size < y3.heap.size + 1 := by omega
  have hnc2 : ¬ (y2.heap.size = y3.heap.size + 1 + 1) := by omega
  have hkc2 : y2.heap.size < y3.heap.size + 1 + 1 := by omega
  have hB := hB'; clear hB'
  have hsz := hB.size
  go_wp2_with fail
  ((with_reducible refine (HMl.out _ _ _ (HPa.out _ (by go_grown)) (HP2.out _ (by go_grown))).mono ?_); rintro _ y4 ⟨rfl, hb⟩)
  have T : y4.cell? ⟨u.heap.size, 0, none⟩ = some (.slice p1 n1 c1) ∧ y4.cell? ⟨u.heap.size, 1, none⟩ = some (.slice p2 n2 c2) ∧ y4.cell? ⟨u.heap.size, 2, none⟩ = some (.int .i64 pd) ∧ y4.cell? ⟨u.heap.size, 3, none⟩ = some (.int .i64 pt) ∧ y4.cell? ⟨y2.heap.size, 0, none⟩ = some (.slice p3 n1 c3) ∧ y4.cell? ⟨y2.heap.size, 1, none⟩ = some (.slice p4 n2 c4) ∧ y4.cell? ⟨y2.heap.size, 2, none⟩ = some (.int .i64 pd) ∧ y4.cell? ⟨y2.heap.size, 3, none⟩ = some (.int .i64 pt) := by
      refine ⟨?_, ?_, ?_, ?_, ?_, ?_, ?_, ?_⟩ <;> refine kc hb ?_ <;> (go_simp; first | done | rfl)
  have hz := hb.size
  (try simp only [World.size_alloc, World.size_setCell, World.size_drew] at hz)
  have hla' : u.heap.size < y4.heap.size := by omega
  have hlc' : y2.heap.size < y4.heap.size := by omega
  have hB' : Below y2.heap.size y2 y4 := by
      refine kb ?_ hb
      go_grown
  clear ha_0 ha_1 ha_2 ha_3 hc_0 hc_1 hc_2 hc_3 hla hlc hna0 hna1 hka1 hna2 hka2 hnc0 hnc1 hkc1 hnc2 hkc2 hB hsz
  clear hb hz
  obtain ⟨ha_0, ha_1, ha_2, ha_3, hc_0, hc_1, hc_2, hc_3⟩ := T
  have hla := hla'; clear hla'
  have hlc := hlc'; clear hlc'
  have hna0 : ¬ (u.heap.size = y4.heap.size) := by omega
  have hna1 : ¬ (u.heap.size = y4.heap.size + 1) := by omega
  have hka1 : u.heap.size < y4.heap.size + 1 := by omega
  have hna2 : ¬ (u.heap.size = y4.heap.size + 1 + 1) := by omega
  have hka2 : u.heap.size < y4.heap.size + 1 + 1 := by omega
  have hnc0 : ¬ (y2.heap.size = y4.heap.size) := by omega
  have hnc1 : ¬ (y2.heap.size = y4.heap.size + 1) := by omega
  have hkc1 : y2.heap.size < y4.heap.size + 1 := by omega
  have hnc2 : ¬ (y2.heap.size = y4.heap.size + 1 + 1) := by omega
  have hkc2 : y2.heap.size < y4.heap.size + 1 + 1 := by omega
  have hB := hB'; clear hB'
  have hsz := hB.size
  go_wp2_with fail
  ((with_reducible refine (HAy.out _ (by go_grown)).mono ?_); rintro _ y5 ⟨rfl, hb⟩)
  have T : y5.cell? ⟨u.heap.size, 0, none⟩ = some (.slice p1 n1 c1) ∧ y5.cell? ⟨u.heap.size, 1, none⟩ = some (.slice p2 n2 c2) ∧ y5.cell? ⟨u.heap.size, 2, none⟩ = some (.int .i64 pd) ∧ y5.cell? ⟨u.heap.size, 3, none⟩ = some (.int .i64 pt) ∧ y5.cell? ⟨y2.heap.size, 0, none⟩ = some (.slice p3 n1 c3) ∧ y5.cell? ⟨y2.heap.size, 1, none⟩ = some (.slice p4 n2 c4) ∧ y5.cell? ⟨y2.heap.size, 2, none⟩ = some (.int .i64 pd) ∧ y5.cell? ⟨y2.heap.size, 3, none⟩ = some (.int .i64 pt) := by
      refine ⟨?_, ?_, ?_, ?_, ?_, ?_, ?_, ?_⟩ <;> refine kc hb ?_ <;> (go_simp; first | done | rfl)
  have hz := hb.size
  (try simp only [World.size_alloc, World.size_setCell, World.size_drew] at hz)
  have hla' : u.heap.size < y5.heap.size := by omega
  have hlc' : y2.heap.size < y5.heap.size := by omega
  have hB' : Below y2.heap.size y2 y5 := by
      refine kb ?_ hb
      go_grown
  clear ha_0 ha_1 ha_2 ha_3 hc_0 hc_1 hc_2 hc_3 hla hlc hna0 hna1 hka1 hna2 hka2 hnc0 hnc1 hkc1 hnc2 hkc2 hB hsz
  clear hb hz
  obtain ⟨ha_0, ha_1, ha_2, ha_3, hc_0, hc_1, hc_2, hc_3⟩ := T
  have hla := hla'; clear hla'
  have hlc := hlc'; clear hlc'
  have hna0 : ¬ (u.heap.size = y5.heap.size) := by omega
  have hna1 : ¬ (u.heap.size = y5.heap.size + 1) := by omega
  have hka1 : u.heap.size < y5.heap.size + 1 := by omega
  have hna2 : ¬ (u.heap.size = y5.heap.size + 1 + 1) := by omega
  have hka2 : u.heap.size < y5.heap.size + 1 + 1 := by omega
  have hnc0 : ¬ (y2.heap.size = y5.heap.size) := by omega
  have hnc1 : ¬ (y2.heap.size = y5.heap.size + 1) := by omega
  have hkc1 : y2.heap.size < y5.heap.size + 1 := by omega
  have hnc2 : ¬ (y2.heap.size = y5.heap.size + 1 + 1) := by omega
  have hkc2 : y2.heap.size < y5.heap.size + 1 + 1 := by omega
  have hB := hB'; clear hB'
  have hsz := hB.size
  go_wp2
  go_ret
  exact ⟨rfl, HBB.out.trans (hB.mono (by have := HBB.out.size; omega))⟩
theorem may_walk (l : List UInt8) (w : World) (hT : w.cell? ⟨5, 15, none⟩ = some (.int .u8 4)) : Calls Tryd.prog 3 #[.string (txB l)] w (LawEnd w) := by
  by_cases h : l.length ≤ 3000
  · by_cases hE : (parseM l).e = 0
    · exact may_ok l h hE w hT
    · exact may_err l h hE w hT
  · exact may_out l (by omega) w hT
end Go.Proofs.YtjcmblbnbpikfaaDoor
