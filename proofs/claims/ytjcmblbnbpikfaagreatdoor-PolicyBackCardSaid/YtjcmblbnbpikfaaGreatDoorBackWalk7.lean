/-
  PolicyBack, walked.
-/
import Derived.Test.YtjcmblbnbpikfaaGreatDoorIsq7
import Derived.Test.YtjcmblbnbpikfaaGreatDoorLawKit
set_option linter.unusedSimpArgs false
set_option linter.unusedVariables false
namespace Go.Proofs.YtjcmblbnbpikfaaGreatDoor
open Go.RowKit Go.PlainAid

theorem holdsP_of {w : World} {v1 v2 : Value} {s k : List Sp} {d t : Int} (h1 : HoldsS w v1 s) (h2 : HoldsS w v2 k) : HoldsP w (.agg #[v1, v2, .int .i64 d, .int .i64 t]) ⟨s, k, d, t⟩ := ⟨_, _, rfl, h1, h2⟩
/-- A call whose value is known. -/
theorem PlanR.oval {P : Program} {ops : Array Oper} {S : World → Prop} {KS : List KdR} {K : (Nat → Gt) → Act → Prop} {m : Nat} {ks : List KdR} {o : Oper} {r : List Oper} {vs : Nat → Gt} {a : Act} {v : Value} (hw : Region.wanted o (yielded ops a.tmps) = true) (hv : ∀ w, S w → (∀ j, j < m → depB ops o j = true → phiK KS j vs (vs j) w) → OneR P w (fun x _ => x.v = v) ((execOp a.eval o).run P w)) (h : ∀ lo hi, PlanR P ops S KS K (m + 1) ks r (fun j => if j = m then ⟨v, lo, hi⟩ else vs j) (a.put o.dst v)) : PlanR P ops S KS K m (.val v :: ks) (o :: r) vs a :=
  ⟨.inl ⟨hw, hv⟩, fun x hx => by
    obtain ⟨xv, lo, hi⟩ := x
    obtain rfl : xv = v := hx
    exact h lo hi⟩
/-- A call that answers a policy. -/
def kPv (P : Pol) : KdR := .any undef (fun _ => True) (fun x w => HoldsP w x.v P)
theorem kPv_fine (P : Pol) : (kPv P).Fine := ⟨trivial, fun x W w1 h hb => h.below hb, fun _ _ _ => trivial⟩
def kQv (P : Pol) : KdR := .any undef (fun _ => True) (fun x w => HoldsQ w x.v P)
theorem kQv_fine (P : Pol) : (kQv P).Fine := ⟨trivial, fun x W w1 h hb => h.below hb, fun _ _ _ => trivial⟩
set_option maxRecDepth 100000 in
set_option maxHeartbeats 2000000 in
theorem back_few (P : Pol) (hb8 : Bits P) (v : Value) (w : World) (hv : HoldsP w v P) (hT : w.cell? ⟨5, 15, none⟩ = some (.int .u8 4)) (hF : (decide (P.s.length ≤ 80) && decide (P.k.length ≤ 80)) = false) : Calls Tryz.prog 5 #[v] w (LawEnd w) := by
  have HA := Lib.hid (fun W (hb : Below w.heap.size w W) => awake7_c W (kc hb hT))
  have HFw := Lib.hid (fun W (hb : Below w.heap.size w W) => few_c P v W (hv.below hb))
  rw [hF] at HFw
  obtain ⟨v1, v2, rfl, h1, h2⟩ := hv
  obtain ⟨a1, c1, rfl⟩ := h1.form
  obtain ⟨a2, c2, rfl⟩ := h2.form
  obtain ⟨ps, pk, pd, pt⟩ := P
  dsimp only at *
  generalize ps.length = n1 at *
  generalize pk.length = n2 at *
  clear h1 h2 hF hb8
  go_enter Tryz.func5, Tryz.ntmps5
  go_wp2_with fail
  ((with_reducible refine (HFw.out _ (by go_grown)).mono ?_); rintro _ u1 ⟨rfl, hb⟩)
  have T : u1.cell? ⟨w.heap.size, 0, none⟩ = some (.slice a1 n1 c1) ∧ u1.cell? ⟨w.heap.size, 1, none⟩ = some (.slice a2 n2 c2) ∧ u1.cell? ⟨w.heap.size, 2, none⟩ = some (.int .i64 pd) ∧ u1.cell? ⟨w.heap.size, 3, none⟩ = some (.int .i64 pt) := by
      refine ⟨?_, ?_, ?_, ?_⟩ <;> refine kc hb ?_ <;> (go_simp; first | done | rfl)
  have hz := hb.size
  (try simp only [World.size_alloc, World.size_setCell, World.size_drew] at hz)
  have hlp' : w.heap.size < u1.heap.size := by omega
  have hB' : Below w.heap.size w u1 := by
      refine kb ?_ hb
      go_grown
  clear hb hz
  obtain ⟨hp_0, hp_1, hp_2, hp_3⟩ := T
  have hlp := hlp'; clear hlp'
  have hnp0 : ¬ (w.heap.size = u1.heap.size) := by omega
  have hnp1 : ¬ (w.heap.size = u1.heap.size + 1) := by omega
  have hkp1 : w.heap.size < u1.heap.size + 1 := by omega
  have hnp2 : ¬ (w.heap.size = u1.heap.size + 1 + 1) := by omega
  have hkp2 : w.heap.size < u1.heap.size + 1 + 1 := by omega
  have hB := hB'; clear hB'
  have hsz := hB.size
  go_wp2_with fail
  ((with_reducible refine (HA.out _ (by go_grown)).mono ?_); rintro _ u2 ⟨rfl, hb⟩)
  have T : u2.cell? ⟨w.heap.size, 0, none⟩ = some (.slice a1 n1 c1) ∧ u2.cell? ⟨w.heap.size, 1, none⟩ = some (.slice a2 n2 c2) ∧ u2.cell? ⟨w.heap.size, 2, none⟩ = some (.int .i64 pd) ∧ u2.cell? ⟨w.heap.size, 3, none⟩ = some (.int .i64 pt) := by
      refine ⟨?_, ?_, ?_, ?_⟩ <;> refine kc hb ?_ <;> (go_simp; first | done | rfl)
  have hz := hb.size
  (try simp only [World.size_alloc, World.size_setCell, World.size_drew] at hz)
  have hlp' : w.heap.size < u2.heap.size := by omega
  have hB' : Below w.heap.size w u2 := by
      refine kb ?_ hb
      go_grown
  clear hp_0 hp_1 hp_2 hp_3 hlp hnp0 hnp1 hkp1 hnp2 hkp2 hB hsz
  clear hb hz
  obtain ⟨hp_0, hp_1, hp_2, hp_3⟩ := T
  have hlp := hlp'; clear hlp'
  have hnp0 : ¬ (w.heap.size = u2.heap.size) := by omega
  have hnp1 : ¬ (w.heap.size = u2.heap.size + 1) := by omega
  have hkp1 : w.heap.size < u2.heap.size + 1 := by omega
  have hnp2 : ¬ (w.heap.size = u2.heap.size + 1 + 1) := by omega
  have hkp2 : w.heap.size < u2.heap.size + 1 + 1 := by omega
  have hB := hB'; clear hB'
  have hsz := hB.size
  go_wp2
  go_ret
  exact ⟨rfl, hB⟩
set_option maxRecDepth 100000 in
set_option maxHeartbeats 2000000 in
theorem back_err (P : Pol) (hb8 : Bits P) (v : Value) (w : World) (hv : HoldsP w v P) (hT : w.cell? ⟨5, 15, none⟩ = some (.int .u8 4)) (hF : P.s.length ≤ 80 ∧ P.k.length ≤ 80) (hE : checkM P ≠ 0) : Calls Tryz.prog 5 #[v] w (LawEnd w) := by
  have HA := Lib.hid (fun W (hb : Below w.heap.size w W) => awake7_c W (kc hb hT))
  have HFw := Lib.hid (fun W (hb : Below w.heap.size w W) => few_c P v W (hv.below hb))
  have HCl := Lib.hid (fun W (hb : Below w.heap.size w W) => check_c P ⟨by omega, by omega⟩ v W (hv.below hb))
  rw [decide_eq_true hF.1, decide_eq_true hF.2] at HFw
  have HPr := Lib.hid (fun W (hb : Below w.heap.size w W) => print_c P ⟨by omega, by omega⟩ hb8 v W (hv.below hb) (kc hb hT))
  have hpr : printM P = ([], checkM P) := by unfold printM; rw [if_pos hE]
  rw [hpr] at HPr
  generalize checkM P = E at *
  have d1 : (E != 0) = true := by simp [bne, hE]
  have d2 : decide (E = 0) = false := decide_eq_false hE
  have HPr2 := Lib.hid (fun W (hb : Below w.heap.size w W) => (show Calls Tryz.prog 10 #[v] W (fun e w' => e = .returned (.tuple #[.string ⟨#[]⟩, .int .i64 E]) ∧ Below W.heap.size W w') from HPr.out W hb))
  obtain ⟨v1, v2, rfl, h1, h2⟩ := hv
  obtain ⟨a1, c1, rfl⟩ := h1.form
  obtain ⟨a2, c2, rfl⟩ := h2.form
  obtain ⟨ps, pk, pd, pt⟩ := P
  dsimp only at *
  generalize ps.length = n1 at *
  generalize pk.length = n2 at *
  clear h1 h2 hF hb8 HPr hpr hE
  go_enter Tryz.func5, Tryz.ntmps5
  go_wp2_with fail
  ((with_reducible refine (HFw.out _ (by go_grown)).mono ?_); rintro _ u1 ⟨rfl, hb⟩)
  have T : u1.cell? ⟨w.heap.size, 0, none⟩ = some (.slice a1 n1 c1) ∧ u1.cell? ⟨w.heap.size, 1, none⟩ = some (.slice a2 n2 c2) ∧ u1.cell? ⟨w.heap.size, 2, none⟩ = some (.int .i64 pd) ∧ u1.cell? ⟨w.heap.size, 3, none⟩ = some (.int .i64 pt) := by
      refine ⟨?_, ?_, ?_, ?_⟩ <;> refine kc hb ?_ <;> (go_simp; first | done | rfl)
  have hz := hb.size
  (try simp only [World.size_alloc, World.size_setCell, World.size_drew] at hz)
  have hlp' : w.heap.size < u1.heap.size := by omega
  have hB' : Below w.heap.size w u1 := by
      refine kb ?_ hb
      go_grown
  clear hb hz
  obtain ⟨hp_0, hp_1, hp_2, hp_3⟩ := T
  have hlp := hlp'; clear hlp'
  have hnp0 : ¬ (w.heap.size = u1.heap.size) := by omega
  have hnp1 : ¬ (w.heap.size = u1.heap.size + 1) := by omega
  have hkp1 : w.heap.size < u1.heap.size + 1 := by omega
  have hnp2 : ¬ (w.heap.size = u1.heap.size + 1 + 1) := by omega
  have hkp2 : w.heap.size < u1.heap.size + 1 + 1 := by omega
  have hB := hB'; clear hB'
  have hsz := hB.size
  go_wp2_with fail
  ((with_reducible refine (HPr2.out _ (by go_grown)).mono ?_); rintro _ u2 ⟨rfl, hb⟩)
  have T : u2.cell? ⟨w.heap.size, 0, none⟩ = some (.slice a1 n1 c1) ∧ u2.cell? ⟨w.heap.size, 1, none⟩ = some (.slice a2 n2 c2) ∧ u2.cell? ⟨w.heap.size, 2, none⟩ = some (.int .i64 pd) ∧ u2.cell? ⟨w.heap.size, 3, none⟩ = some (.int .i64 pt) := by
      refine ⟨?_, ?_, ?_, ?_⟩ <;> refine kc hb ?_ <;> (go_simp; first | done | rfl)
  have hz := hb.size
  (try simp only [World.size_alloc, World.size_setCell, World.size_drew] at hz)
  have hlp' : w.heap.size < u2.heap.size := by omega
  have hB' : Below w.heap.size w u2 := by
      refine kb ?_ hb
      go_grown
  clear hp_0 hp_1 hp_2 hp_3 hlp hnp0 hnp1 hkp1 hnp2 hkp2 hB hsz
  clear hb hz
  obtain ⟨hp_0, hp_1, hp_2, hp_3⟩ := T
  have hlp := hlp'; clear hlp'
  have hnp0 : ¬ (w.heap.size = u2.heap.size) := by omega
  have hnp1 : ¬ (w.heap.size = u2.heap.size + 1) := by omega
  have hkp1 : w.heap.size < u2.heap.size + 1 := by omega
  have hnp2 : ¬ (w.heap.size = u2.heap.size + 1 + 1) := by omega
  have hkp2 : w.heap.size < u2.heap.size + 1 + 1 := by omega
  have hB := hB'; clear hB'
  have hsz := hB.size
  go_wp2_with fail
  ((with_reducible refine (HCl.out _ (by go_grown)).mono ?_); rintro _ u3 ⟨rfl, hb⟩)
  have T : u3.cell? ⟨w.heap.size, 0, none⟩ = some (.slice a1 n1 c1) ∧ u3.cell? ⟨w.heap.size, 1, none⟩ = some (.slice a2 n2 c2) ∧ u3.cell? ⟨w.heap.size, 2, none⟩ = some (.int .i64 pd) ∧ u3.cell? ⟨w.heap.size, 3, none⟩ = some (.int .i64 pt) := by
      refine ⟨?_, ?_, ?_, ?_⟩ <;> refine kc hb ?_ <;> (go_simp; first | done | rfl)
  have hz := hb.size
  (try simp only [World.size_alloc, World.size_setCell, World.size_drew] at hz)
  have hlp' : w.heap.size < u3.heap.size := by omega
  have hB' : Below w.heap.size w u3 := by
      refine kb ?_ hb
      go_grown
  clear hp_0 hp_1 hp_2 hp_3 hlp hnp0 hnp1 hkp1 hnp2 hkp2 hB hsz
  clear hb hz
  obtain ⟨hp_0, hp_1, hp_2, hp_3⟩ := T
  have hlp := hlp'; clear hlp'
  have hnp0 : ¬ (w.heap.size = u3.heap.size) := by omega
  have hnp1 : ¬ (w.heap.size = u3.heap.size + 1) := by omega
  have hkp1 : w.heap.size < u3.heap.size + 1 := by omega
  have hnp2 : ¬ (w.heap.size = u3.heap.size + 1 + 1) := by omega
  have hkp2 : w.heap.size < u3.heap.size + 1 + 1 := by omega
  have hB := hB'; clear hB'
  have hsz := hB.size
  go_wp2_with fail
  ((with_reducible refine (HA.out _ (by go_grown)).mono ?_); rintro _ u4 ⟨rfl, hb⟩)
  have T : u4.cell? ⟨w.heap.size, 0, none⟩ = some (.slice a1 n1 c1) ∧ u4.cell? ⟨w.heap.size, 1, none⟩ = some (.slice a2 n2 c2) ∧ u4.cell? ⟨w.heap.size, 2, none⟩ = some (.int .i64 pd) ∧ u4.cell? ⟨w.heap.size, 3, none⟩ = some (.int .i64 pt) := by
      refine ⟨?_, ?_, ?_, ?_⟩ <;> refine kc hb ?_ <;> (go_simp; first | done | rfl)
  have hz := hb.size
  (try simp only [World.size_alloc, World.size_setCell, World.size_drew] at hz)
  have hlp' : w.heap.size < u4.heap.size := by omega
  have hB' : Below w.heap.size w u4 := by
      refine kb ?_ hb
      go_grown
  clear hp_0 hp_1 hp_2 hp_3 hlp hnp0 hnp1 hkp1 hnp2 hkp2 hB hsz
  clear hb hz
  obtain ⟨hp_0, hp_1, hp_2, hp_3⟩ := T
  have hlp := hlp'; clear hlp'
  have hnp0 : ¬ (w.heap.size = u4.heap.size) := by omega
  have hnp1 : ¬ (w.heap.size = u4.heap.size + 1) := by omega
  have hkp1 : w.heap.size < u4.heap.size + 1 := by omega
  have hnp2 : ¬ (w.heap.size = u4.heap.size + 1 + 1) := by omega
  have hkp2 : w.heap.size < u4.heap.size + 1 + 1 := by omega
  have hB := hB'; clear hB'
  have hsz := hB.size
  go_wp2
  go_ret
  exact ⟨rfl, hB⟩
set_option maxRecDepth 100000 in
set_option maxHeartbeats 4000000 in
theorem back_ok (P : Pol) (hb8 : Bits P) (v : Value) (w : World) (hv : HoldsP w v P) (hT : w.cell? ⟨5, 15, none⟩ = some (.int .u8 4)) (hF : P.s.length ≤ 80 ∧ P.k.length ≤ 80) (hE : checkM P = 0) : Calls Tryz.prog 5 #[v] w (LawEnd w) := by
  have HA := Lib.hid (fun W (hb : Below w.heap.size w W) => awake7_c W (kc hb hT))
  have HFw := Lib.hid (fun W (hb : Below w.heap.size w W) => few_c P v W (hv.below hb))
  have HCl := Lib.hid (fun W (hb : Below w.heap.size w W) => check_c P ⟨by omega, by omega⟩ v W (hv.below hb))
  have hP8 := hb8
  obtain ⟨Q, hQ⟩ : ∃ Q, sortP P = Q := ⟨_, rfl⟩
  have hQ8 : Bits Q := hQ ▸ hb8.sort
  have hQl : Q.s.length = P.s.length ∧ Q.k.length = P.k.length := by rw [← hQ]; exact ⟨sortS_len _, sortS_len _⟩
  have hQi : sortP Q = Q := by rw [← hQ]; exact sortP_idem P
  have hQE : checkM Q = 0 := hQ ▸ check_sort hE
  have HPr := Lib.hid (fun W (hb : Below w.heap.size w W) => print_c P ⟨by omega, by omega⟩ hb8 v W (hv.below hb) (kc hb hT))
  have HPq := Lib.hid (fun u W (hu : HoldsP W u Q) (hb : Below w.heap.size w W) => print_c Q ⟨by omega, by omega⟩ hQ8 u W hu (kc hb hT))
  have HSo := Lib.hid (fun W (hb : Below w.heap.size w W) => sorted_c P ⟨by omega, by omega⟩ v W (hv.below hb))
  have HMl := Lib.hid (fun u W (hb : Below w.heap.size w W) hu => same_c P Q ⟨by omega, by omega⟩ ⟨by omega, by omega⟩ v u W (hv.below hb) hu)
  have HPn := Lib.hid (fun u W hu => Plain7_c Q ⟨by omega, by omega⟩ hQ8 u W hu)
  have HIs := Lib.hid (fun u q W hu hq => is_c Q ⟨by omega, by omega⟩ hQ8 u q W hu hq)
  rw [decide_eq_true (show sortP P = sortP Q from by rw [hQi, hQ])] at HMl
  rw [hE] at HCl
  rw [hQ] at HSo
  have hback := back hE hb8
  have hpr := print_ok hE hb8
  have hprq := print_ok hQE hQ8
  rw [hQi] at hprq
  rw [hpr] at HPr hback
  rw [hprq] at HPq
  rw [hQ] at hback HPr
  generalize txtX ((specsP Q).map Spec.core) = L at *
  have HS2 := Lib.hid (fun W => parse_c L W)
  rw [hback] at HS2
  unfold ParseEnd at HS2
  unfold AnsP at HSo
  dsimp only at HS2 HSo
  rw [decide_eq_true hF.1, decide_eq_true hF.2] at HFw
  obtain ⟨v1, v2, rfl, h1, h2⟩ := hv
  obtain ⟨a1, c1, rfl⟩ := h1.form
  obtain ⟨a2, c2, rfl⟩ := h2.form
  obtain ⟨ps, pk, pd, pt⟩ := P
  dsimp only at HA HFw HCl HPr HPq HSo HMl HPn HIs HS2 hQl ⊢
  obtain ⟨n1, hn1⟩ : ∃ n, ps.length = n := ⟨_, rfl⟩
  obtain ⟨n2, hn2⟩ : ∃ n, pk.length = n := ⟨_, rfl⟩
  rw [hn1, hn2] at hQl
  rw [hn1, hn2] at HFw HCl HPr HSo HMl ⊢
  have HL := Lib.hid hQl
  generalize txB L = T at HPr HPq HS2
  clear h1 h2 hb8 hE hQ hQ8 hQl hQi hQE hback hpr hprq hn1 hn2 hP8 hF
  obtain ⟨qs, qk, qd, qt⟩ := Q
  dsimp only at HL HS2 HSo
  go_enter Tryz.func5, Tryz.ntmps5
  go_wp2_with fail
  ((with_reducible refine (HFw.out _ (by go_grown)).mono ?_); rintro _ u1 ⟨rfl, hb⟩)
  have T : u1.cell? ⟨w.heap.size, 0, none⟩ = some (.slice a1 n1 c1) ∧ u1.cell? ⟨w.heap.size, 1, none⟩ = some (.slice a2 n2 c2) ∧ u1.cell? ⟨w.heap.size, 2, none⟩ = some (.int .i64 pd) ∧ u1.cell? ⟨w.heap.size, 3, none⟩ = some (.int .i64 pt) := by
      refine ⟨?_, ?_, ?_, ?_⟩ <;> refine kc hb ?_ <;> (go_simp; first | done | rfl)
  have hz := hb.size
  (try simp only [World.size_alloc, World.size_setCell, World.size_drew] at hz)
  have hlp' : w.heap.size < u1.heap.size := by omega
  have hB' : Below w.heap.size w u1 := by
      refine kb ?_ hb
      go_grown
  clear hb hz
  obtain ⟨hp_0, hp_1, hp_2, hp_3⟩ := T
  have hlp := hlp'; clear hlp'
  have hnp0 : ¬ (w.heap.size = u1.heap.size) := by omega
  have hnp1 : ¬ (w.heap.size = u1.heap.size + 1) := by omega
  have hkp1 : w.heap.size < u1.heap.size + 1 := by omega
  have hnp2 : ¬ (w.heap.size = u1.heap.size + 1 + 1) := by omega
  have hkp2 : w.heap.size < u1.heap.size + 1 + 1 := by omega
  have hB := hB'; clear hB'
  have hsz := hB.size
  go_wp2_with fail
  ((with_reducible refine (HPr.out _ (by go_grown)).mono ?_); rintro _ u2 ⟨rfl, hb⟩)
  have T : u2.cell? ⟨w.heap.size, 0, none⟩ = some (.slice a1 n1 c1) ∧ u2.cell? ⟨w.heap.size, 1, none⟩ = some (.slice a2 n2 c2) ∧ u2.cell? ⟨w.heap.size, 2, none⟩ = some (.int .i64 pd) ∧ u2.cell? ⟨w.heap.size, 3, none⟩ = some (.int .i64 pt) := by
      refine ⟨?_, ?_, ?_, ?_⟩ <;> refine kc hb ?_ <;> (go_simp; first | done | rfl)
  have hz := hb.size
  (try simp only [World.size_alloc, World.size_setCell, World.size_drew] at hz)
  have hlp' : w.heap.size < u2.heap.size := by omega
  have hB' : Below w.heap.size w u2 := by
      refine kb ?_ hb
      go_grown
  clear hp_0 hp_1 hp_2 hp_3 hlp hnp0 hnp1 hkp1 hnp2 hkp2 hB hsz
  clear hb hz
  obtain ⟨hp_0, hp_1, hp_2, hp_3⟩ := T
  have hlp := hlp'; clear hlp'
  have hnp0 : ¬ (w.heap.size = u2.heap.size) := by omega
  have hnp1 : ¬ (w.heap.size = u2.heap.size + 1) := by omega
  have hkp1 : w.heap.size < u2.heap.size + 1 := by omega
  have hnp2 : ¬ (w.heap.size = u2.heap.size + 1 + 1) := by omega
  have hkp2 : w.heap.size < u2.heap.size + 1 + 1 := by omega
  have hB := hB'; clear hB'
  have hsz := hB.size
  go_wp2_with fail
  ((with_reducible refine (HS2.out _).mono ?_); rintro _ u3 ⟨v3, v4, rfl, h3, h4, _, _, hb⟩)
  have hs_u3 := Lib.hid hb
  have T : u3.cell? ⟨w.heap.size, 0, none⟩ = some (.slice a1 n1 c1) ∧ u3.cell? ⟨w.heap.size, 1, none⟩ = some (.slice a2 n2 c2) ∧ u3.cell? ⟨w.heap.size, 2, none⟩ = some (.int .i64 pd) ∧ u3.cell? ⟨w.heap.size, 3, none⟩ = some (.int .i64 pt) := by
      refine ⟨?_, ?_, ?_, ?_⟩ <;> refine kc hb ?_ <;> (go_simp; first | done | rfl)
  have hz := hb.size
  (try simp only [World.size_alloc, World.size_setCell, World.size_drew] at hz)
  have hlp' : w.heap.size < u3.heap.size := by omega
  have hB' : Below w.heap.size w u3 := by
      refine kb ?_ hb
      go_grown
  clear hp_0 hp_1 hp_2 hp_3 hlp hnp0 hnp1 hkp1 hnp2 hkp2 hB hsz
  clear hb hz
  obtain ⟨hp_0, hp_1, hp_2, hp_3⟩ := T
  have hlp := hlp'; clear hlp'
  have hnp0 : ¬ (w.heap.size = u3.heap.size) := by omega
  have hnp1 : ¬ (w.heap.size = u3.heap.size + 1) := by omega
  have hkp1 : w.heap.size < u3.heap.size + 1 := by omega
  have hnp2 : ¬ (w.heap.size = u3.heap.size + 1 + 1) := by omega
  have hkp2 : w.heap.size < u3.heap.size + 1 + 1 := by omega
  have hB := hB'; clear hB'
  have hsz := hB.size
  obtain ⟨p3, c3, rfl⟩ := h3.form
  obtain ⟨p4, c4, rfl⟩ := h4.form
  have HQu := Lib.hid (fun W (hb : Below u3.heap.size u3 W) => (show HoldsP W (.agg #[.slice p3 qs.length c3, .slice p4 qk.length c4, .int .i64 qd, .int .i64 qt]) ⟨qs, qk, qd, qt⟩ from holdsP_of (h3.below hb) (h4.below hb)))
  clear h3 h4
  rw [HL.out.1, HL.out.2] at HQu
  rw [HL.out.1, HL.out.2]
  have HB3 := Lib.hid hB
  have hyy : Below u3.heap.size u3 u3 := Below.refl _ _
  go_wp2_with fail
  ((with_reducible refine (HPq.out _ _ (HQu.out _ (by go_grown)) (HB3.out.trans ((show Below u3.heap.size u3 _ from by go_grown).mono HB3.out.size))).mono ?_); rintro _ u4 ⟨rfl, hb⟩)
  have T : u4.cell? ⟨w.heap.size, 0, none⟩ = some (.slice a1 n1 c1) ∧ u4.cell? ⟨w.heap.size, 1, none⟩ = some (.slice a2 n2 c2) ∧ u4.cell? ⟨w.heap.size, 2, none⟩ = some (.int .i64 pd) ∧ u4.cell? ⟨w.heap.size, 3, none⟩ = some (.int .i64 pt) ∧ u4.cell? ⟨u3.heap.size, 0, none⟩ = some (.slice p3 n1 c3) ∧ u4.cell? ⟨u3.heap.size, 1, none⟩ = some (.slice p4 n2 c4) ∧ u4.cell? ⟨u3.heap.size, 2, none⟩ = some (.int .i64 qd) ∧ u4.cell? ⟨u3.heap.size, 3, none⟩ = some (.int .i64 qt) ∧ u4.cell? ⟨u3.heap.size + 1, 0, none⟩ = some (.int .i64 0) ∧ u4.cell? ⟨u3.heap.size + 1, 1, none⟩ = some (.int .i64 0) := by
      refine ⟨?_, ?_, ?_, ?_, ?_, ?_, ?_, ?_, ?_, ?_⟩ <;> refine kc hb ?_ <;> (go_simp; first | done | rfl)
  have hz := hb.size
  (try simp only [World.size_alloc, World.size_setCell, World.size_drew] at hz)
  have hlp' : w.heap.size < u4.heap.size := by omega
  have hlq' : u3.heap.size < u4.heap.size := by omega
  have hlt' : u3.heap.size + 1 < u4.heap.size := by omega
  have hB' : Below u3.heap.size u3 u4 := by
      refine kb ?_ hb
      go_grown
  clear hp_0 hp_1 hp_2 hp_3 hlp hnp0 hnp1 hkp1 hnp2 hkp2 hB hsz
  clear hb hz
  obtain ⟨hp_0, hp_1, hp_2, hp_3, hq_0, hq_1, hq_2, hq_3, ht_0, ht_1⟩ := T
  have hlp := hlp'; clear hlp'
  have hlq := hlq'; clear hlq'
  have hlt := hlt'; clear hlt'
  have hnp0 : ¬ (w.heap.size = u4.heap.size) := by omega
  have hnp1 : ¬ (w.heap.size = u4.heap.size + 1) := by omega
  have hkp1 : w.heap.size < u4.heap.size + 1 := by omega
  have hnp2 : ¬ (w.heap.size = u4.heap.size + 1 + 1) := by omega
  have hkp2 : w.heap.size < u4.heap.size + 1 + 1 := by omega
  have hnq0 : ¬ (u3.heap.size = u4.heap.size) := by omega
  have hnq1 : ¬ (u3.heap.size = u4.heap.size + 1) := by omega
  have hkq1 : u3.heap.size < u4.heap.size + 1 := by omega
  have hnq2 : ¬ (u3.heap.size = u4.heap.size + 1 + 1) := by omega
  have hkq2 : u3.heap.size < u4.heap.size + 1 + 1 := by omega
  have hnt0 : ¬ (u3.heap.size + 1 = u4.heap.size) := by omega
  have hkt1 : u3.heap.size < u4.heap.size := by omega
  have hB := hB'; clear hB'
  have hsz := hB.size
  go_wp2_with fail
  refine wp_region_planD 9 36 (fun W => W.cell? ⟨w.heap.size, 0, none⟩ = some (.slice a1 n1 c1) ∧ W.cell? ⟨w.heap.size, 1, none⟩ = some (.slice a2 n2 c2) ∧ W.cell? ⟨w.heap.size, 2, none⟩ = some (.int .i64 pd) ∧ W.cell? ⟨w.heap.size, 3, none⟩ = some (.int .i64 pt) ∧ W.cell? ⟨u3.heap.size, 0, none⟩ = some (.slice p3 n1 c3) ∧ W.cell? ⟨u3.heap.size, 1, none⟩ = some (.slice p4 n2 c4) ∧ W.cell? ⟨u3.heap.size, 2, none⟩ = some (.int .i64 qd) ∧ W.cell? ⟨u3.heap.size, 3, none⟩ = some (.int .i64 qt) ∧ W.cell? ⟨u3.heap.size + 1, 0, none⟩ = some (.int .i64 0) ∧ W.cell? ⟨u3.heap.size + 1, 1, none⟩ = some (.int .i64 0) ∧ Below u3.heap.size u3 W)
    [.val (.int .i64 0), .val (.bool true), .val (.bool true), .val (.agg #[.int .i64 0, .int .i64 0]), .val (.agg #[.int .i64 0, .int .i64 0]), .val (.bool true), .val (.bool true), .val (.bool true), .val (.int .i64 0), .val (.bool true), .val (.bool true), .val (.bool true), .val (.string T), .val (.string T), .val (.bool true), .val (.bool true), .val (.bool true), .val (.agg #[.slice a1 n1 c1, .slice a2 n2 c2, .int .i64 pd, .int .i64 pt]), .val (.agg #[.slice p3 n1 c3, .slice p4 n2 c4, .int .i64 qd, .int .i64 qt]), .val (.bool true), .val (.bool true), .val (.bool true), .val (.agg #[.slice p3 n1 c3, .slice p4 n2 c4, .int .i64 qd, .int .i64 qt]), .val (.agg #[.slice a1 n1 c1, .slice a2 n2 c2, .int .i64 pd, .int .i64 pt]), kPv ⟨qs, qk, qd, qt⟩, kQv ⟨qs, qk, qd, qt⟩, .val (.bool true), .val (.bool true), .val (.bool true), .val (.agg #[.slice a1 n1 c1, .slice a2 n2 c2, .int .i64 pd, .int .i64 pt]), .val (.int .i64 0), .val (.bool true), .val (.bool true), .val (.bool true), .val (.bool true), .val (.bool true)]
    (by kernel_rfl) (by kernel_rfl) (by kernel_rfl) (by kernel_rfl) (by kernel_rfl) (fun W w1 h hb => ⟨kc hb h.1, kc hb h.2.1, kc hb h.2.2.1, kc hb h.2.2.2.1, kc hb h.2.2.2.2.1, kc hb h.2.2.2.2.2.1, kc hb h.2.2.2.2.2.2.1, kc hb h.2.2.2.2.2.2.2.1, kc hb h.2.2.2.2.2.2.2.2.1, kc hb h.2.2.2.2.2.2.2.2.2.1, h.2.2.2.2.2.2.2.2.2.2.trans (hb.mono h.2.2.2.2.2.2.2.2.2.2.size)⟩) ?_ ?_ ?_
  · intro k hk
    simp only [List.mem_cons, List.not_mem_nil, or_false] at hk
    rcases hk with rfl | rfl | rfl | rfl | rfl | rfl | rfl | rfl | rfl | rfl | rfl | rfl | rfl | rfl | rfl | rfl | rfl | rfl | rfl | rfl | rfl | rfl | rfl | rfl | rfl | rfl | rfl | rfl | rfl | rfl | rfl | rfl | rfl | rfl | rfl | rfl <;> first | exact trivial | exact kPv_fine _ | exact kQv_fine _
  · exact ⟨by go_simp, by go_simp, by go_simp, by go_simp, by go_simp, by go_simp, by go_simp, by go_simp, by go_simp, by go_simp, Below.drew hB⟩
  (try simp only [List.append_eq, List.cons_append, List.nil_append, List.toList_toArray, List.take_succ_cons, List.take_zero, List.drop_succ_cons, List.drop_zero])
  (iterate 19 (refine PlanR.val ?_ ?_ ?_; (· rfl); (· (intro W hSw; (try dsimp only at hSw); go_simp; all_goals (first | (with_reducible rfl) | (constructor <;> (with_reducible rfl))))); intro _ _; (try simp only [Act.put, List.setIfInBounds_toArray, List.set_cons_zero, List.set_cons_succ])))
  refine PlanR.oval ?_ ?_ ?_
  · rfl
  · intro W hSw hKn
    (try dsimp only at hSw)
    have hbW := hSw.2.2.2.2.2.2.2.2.2.2
    go_simp
    refine ⟨rfl, (HMl.out _ W (HB3.out.trans (hbW.mono HB3.out.size)) (HQu.out W hbW)).mono ?_⟩
    rintro _ u ⟨rfl, hb⟩
    exact ⟨_, rfl, hb, rfl⟩
  intro _ _
  (try simp only [Act.put, List.setIfInBounds_toArray, List.set_cons_zero, List.set_cons_succ])
  (iterate 4 (refine PlanR.val ?_ ?_ ?_; (· rfl); (· (intro W hSw; (try dsimp only at hSw); go_simp; all_goals (first | (with_reducible rfl) | (constructor <;> (with_reducible rfl))))); intro _ _; (try simp only [Act.put, List.setIfInBounds_toArray, List.set_cons_zero, List.set_cons_succ])))
  refine PlanR.any ?_ ?_ ?_
  · rfl
  · intro W hSw _
    (try dsimp only at hSw)
    have hbW := hSw.2.2.2.2.2.2.2.2.2.2
    have hbw := HB3.out.trans (hbW.mono HB3.out.size)
    go_simp
    refine ⟨rfl, (HSo.out W hbw).mono ?_⟩
    rintro _ u ⟨x1, x2, rfl, hx1, hx2, _, _, hb⟩
    exact ⟨_, rfl, hb, ⟨_, _, rfl, hx1, hx2⟩⟩
  rintro ⟨y1, lo1, hi1⟩ _
  (try simp only [Act.put, List.setIfInBounds_toArray, List.set_cons_zero, List.set_cons_succ])
  refine PlanR.any ?_ ?_ ?_
  · rfl
  · intro W hSw hKn
    (try dsimp only at hSw)
    have hbW := hSw.2.2.2.2.2.2.2.2.2.2
    have hk : HoldsP W y1 ⟨qs, qk, qd, qt⟩ := hKn 24 (by decide) rfl
    go_simp
    refine ⟨rfl, (HPn.out _ W hk).mono ?_⟩
    rintro _ u ⟨y, rfl, hy, hb⟩
    exact ⟨_, rfl, hb, hy⟩
  rintro ⟨y2, lo2, hi2⟩ _
  (try simp only [Act.put, List.setIfInBounds_toArray, List.set_cons_zero, List.set_cons_succ])
  refine PlanR.oval ?_ ?_ ?_
  · rfl
  · intro W hSw hKn
    (try dsimp only at hSw)
    have hbW := hSw.2.2.2.2.2.2.2.2.2.2
    have hbw := HB3.out.trans (hbW.mono HB3.out.size)
    go_simp
    refine ⟨rfl, (HIs.out _ _ W (HQu.out W hbW) (show HoldsQ W y2 ⟨qs, qk, qd, qt⟩ from hKn 25 (by decide) rfl)).mono ?_⟩
    rintro _ u ⟨rfl, hb⟩
    exact ⟨_, rfl, hb, rfl⟩
  intro _ _
  (try simp only [Act.put, List.setIfInBounds_toArray, List.set_cons_zero, List.set_cons_succ])
  (iterate 3 (refine PlanR.val ?_ ?_ ?_; (· rfl); (· (intro W hSw; (try dsimp only at hSw); go_simp; all_goals (first | (with_reducible rfl) | (constructor <;> (with_reducible rfl))))); intro _ _; (try simp only [Act.put, List.setIfInBounds_toArray, List.set_cons_zero, List.set_cons_succ])))
  refine PlanR.oval ?_ ?_ ?_
  · rfl
  · intro W hSw hKn
    (try dsimp only at hSw)
    have hbW := hSw.2.2.2.2.2.2.2.2.2.2
    have hbw := HB3.out.trans (hbW.mono HB3.out.size)
    go_simp
    refine ⟨rfl, (HCl.out W hbw).mono ?_⟩
    rintro _ u ⟨rfl, hb⟩
    exact ⟨_, rfl, hb, rfl⟩
  intro _ _
  (try simp only [Act.put, List.setIfInBounds_toArray, List.set_cons_zero, List.set_cons_succ])
  (iterate 3 (refine PlanR.val ?_ ?_ ?_; (· rfl); (· (intro W hSw; (try dsimp only at hSw); go_simp; all_goals (first | (with_reducible rfl) | (constructor <;> (with_reducible rfl))))); intro _ _; (try simp only [Act.put, List.setIfInBounds_toArray, List.set_cons_zero, List.set_cons_succ])))
  refine PlanR.oval ?_ ?_ ?_
  · rfl
  · intro W hSw hKn
    (try dsimp only at hSw)
    have hbW := hSw.2.2.2.2.2.2.2.2.2.2
    have hbw := HB3.out.trans (hbW.mono HB3.out.size)
    go_simp
    refine ⟨rfl, (HA.out W hbw).mono ?_⟩
    rintro _ u ⟨rfl, hb⟩
    exact ⟨_, rfl, hb, rfl⟩
  intro _ _
  (try simp only [Act.put, List.setIfInBounds_toArray, List.set_cons_zero, List.set_cons_succ])
  (iterate 1 (refine PlanR.val ?_ ?_ ?_; (· rfl); (· (intro W hSw; (try dsimp only at hSw); go_simp; all_goals (first | (with_reducible rfl) | (constructor <;> (with_reducible rfl))))); intro _ _; (try simp only [Act.put, List.setIfInBounds_toArray, List.set_cons_zero, List.set_cons_succ])))
  refine PlanR.done ?_
  intro u G
  have hBu : Below u3.heap.size u3 u := G.s.2.2.2.2.2.2.2.2.2.2
  clear G
  (try simp only [List.drop_succ_cons, List.drop_zero])
  refine wpList_plain rfl fun K hK => ?_
  go_simp
  refine hK _ _ ?_
  clear hK K
  go_wp2
  go_ret
  exact ⟨rfl, HB3.out.trans (hBu.mono HB3.out.size)⟩
theorem back_walk (P : Pol) (hb8 : Bits P) (v : Value) (w : World) (hv : HoldsP w v P) (hT : w.cell? ⟨5, 15, none⟩ = some (.int .u8 4)) : Calls Tryz.prog 5 #[v] w (LawEnd w) := by
  by_cases h1 : P.s.length ≤ 80
  · by_cases h2 : P.k.length ≤ 80
    · by_cases hE : checkM P = 0
      · exact back_ok P hb8 v w hv hT ⟨h1, h2⟩ hE
      · exact back_err P hb8 v w hv hT ⟨h1, h2⟩ hE
    · exact back_few P hb8 v w hv hT (by rw [decide_eq_true h1, decide_eq_false h2]; rfl)
  · exact back_few P hb8 v w hv hT (by rw [decide_eq_false h1]; rfl)
end Go.Proofs.YtjcmblbnbpikfaaGreatDoor
