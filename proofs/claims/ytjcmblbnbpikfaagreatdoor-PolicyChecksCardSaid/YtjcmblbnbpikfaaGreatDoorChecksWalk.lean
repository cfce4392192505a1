/-
  PolicyChecks, walked.
-/
import Derived.Test.YtjcmblbnbpikfaaGreatDoorOval
import Derived.Test.YtjcmblbnbpikfaaGreatDoorDocEq
import Derived.Deep.DeepCutAuto
set_option linter.unusedSimpArgs false
set_option linter.unusedVariables false
namespace Go.Proofs.YtjcmblbnbpikfaaGreatDoor
open Go.RowKit Go.PlainAid

set_option maxRecDepth 100000 in
set_option maxHeartbeats 2000000 in
theorem checks_few (P Q : Pol) (v u : Value) (w : World) (hv : HoldsP w v P) (hu : HoldsP w u Q) (hT : w.cell? ⟨5, 15, none⟩ = some (.int .u8 4)) (hF : (decide (P.s.length ≤ 80) && decide (P.k.length ≤ 80)) = false ∨ (decide (Q.s.length ≤ 80) && decide (Q.k.length ≤ 80)) = false) : Calls Tryz.prog 3 #[v, u] w (LawEnd w) := by
  have HA := Lib.hid (fun W (hb : Below w.heap.size w W) => awake7_c W (kc hb hT))
  have HFp := Lib.hid (fun W (hb : Below w.heap.size w W) => few_c P v W (hv.below hb))
  have HFq := Lib.hid (fun W (hb : Below w.heap.size w W) => few_c Q u W (hu.below hb))
  obtain ⟨v1, v2, rfl, h1, h2⟩ := hv
  obtain ⟨u1', u2', rfl, h3, h4⟩ := hu
  obtain ⟨a1, c1, rfl⟩ := h1.form
  obtain ⟨a2, c2, rfl⟩ := h2.form
  obtain ⟨b1, e1, rfl⟩ := h3.form
  obtain ⟨b2, e2, rfl⟩ := h4.form
  obtain ⟨ps, pk, pd, pt⟩ := P
  obtain ⟨qs, qk, qd, qt⟩ := Q
  dsimp only at *
  generalize (decide (ps.length ≤ 80) && decide (pk.length ≤ 80)) = FP at *
  generalize (decide (qs.length ≤ 80) && decide (qk.length ≤ 80)) = FQ at *
  generalize ps.length = n1 at *
  generalize pk.length = n2 at *
  generalize qs.length = m1 at *
  generalize qk.length = m2 at *
  clear h1 h2 h3 h4
  go_enter Tryz.func3, Tryz.ntmps3
  go_wp2_with fail
  ((with_reducible refine (HFp.out _ (by go_grown)).mono ?_); rintro _ y1 ⟨rfl, hb⟩)
  have T : CC y1 w.heap.size 0 1 (.slice a1 n1 c1) (.slice a2 n2 c2) ∧ CC y1 w.heap.size 2 3 (.int .i64 pd) (.int .i64 pt) ∧ CC y1 (w.heap.size + 1) 0 1 (.slice b1 m1 e1) (.slice b2 m2 e2) ∧ CC y1 (w.heap.size + 1) 2 3 (.int .i64 qd) (.int .i64 qt) := by
      refine ⟨⟨?_, ?_⟩, ⟨?_, ?_⟩, ⟨?_, ?_⟩, ⟨?_, ?_⟩⟩ <;> refine kc hb ?_ <;> (go_simp; first | done | rfl)
  have hz := hb.size
  (try simp only [World.size_alloc, World.size_setCell, World.size_drew] at hz)
  have L : w.heap.size < y1.heap.size ∧ w.heap.size + 1 < y1.heap.size := by omega
  have hB' : Below w.heap.size w y1 := by
      refine kb ?_ hb
      go_grown
  clear hb hz
  obtain ⟨⟨hp_0, hp_1⟩, ⟨hp_2, hp_3⟩, ⟨hq_0, hq_1⟩, ⟨hq_2, hq_3⟩⟩ := T
  obtain ⟨hlp, hlq⟩ := L
  obtain ⟨hnp0, hnp1, hkp1, hnp2, hkp2⟩ := ap0 hlp
  obtain ⟨hnq0, hkq1⟩ := ap1 hlq
  have hB := hB'; clear hB'
  have hsz := hB.size
  cases FP
  · clear hF
    go_wp2_with fail
    ((with_reducible refine (HA.out _ hB).mono ?_); rintro _ y2 ⟨rfl, hb⟩)
    have T : CC y2 w.heap.size 0 1 (.slice a1 n1 c1) (.slice a2 n2 c2) ∧ CC y2 w.heap.size 2 3 (.int .i64 pd) (.int .i64 pt) ∧ CC y2 (w.heap.size + 1) 0 1 (.slice b1 m1 e1) (.slice b2 m2 e2) ∧ CC y2 (w.heap.size + 1) 2 3 (.int .i64 qd) (.int .i64 qt) := by
        refine ⟨⟨?_, ?_⟩, ⟨?_, ?_⟩, ⟨?_, ?_⟩, ⟨?_, ?_⟩⟩ <;> refine kc hb ?_ <;> (go_simp; first | done | rfl)
    have hz := hb.size
    (try simp only [World.size_alloc, World.size_setCell, World.size_drew] at hz)
    have L : w.heap.size < y2.heap.size ∧ w.heap.size + 1 < y2.heap.size := by omega
    have hB' : Below w.heap.size w y2 := by
        refine kb ?_ hb
        go_grown
    clear hp_0 hp_1 hp_2 hp_3 hq_0 hq_1 hq_2 hq_3 hlp hlq hnp0 hnp1 hkp1 hnp2 hkp2 hnq0 hkq1 hB hsz
    clear hb hz
    obtain ⟨⟨hp_0, hp_1⟩, ⟨hp_2, hp_3⟩, ⟨hq_0, hq_1⟩, ⟨hq_2, hq_3⟩⟩ := T
    obtain ⟨hlp, hlq⟩ := L
    obtain ⟨hnp0, hnp1, hkp1, hnp2, hkp2⟩ := ap0 hlp
    obtain ⟨hnq0, hkq1⟩ := ap1 hlq
    have hB := hB'; clear hB'
    have hsz := hB.size
    go_wp2
    go_ret
    exact ⟨rfl, hB⟩
  · obtain rfl : FQ = false := by simpa using hF
    clear hF
    go_wp2_with fail
    ((with_reducible refine (HFq.out _ hB).mono ?_); rintro _ y2 ⟨rfl, hb⟩)
    have T : CC y2 w.heap.size 0 1 (.slice a1 n1 c1) (.slice a2 n2 c2) ∧ CC y2 w.heap.size 2 3 (.int .i64 pd) (.int .i64 pt) ∧ CC y2 (w.heap.size + 1) 0 1 (.slice b1 m1 e1) (.slice b2 m2 e2) ∧ CC y2 (w.heap.size + 1) 2 3 (.int .i64 qd) (.int .i64 qt) := by
        refine ⟨⟨?_, ?_⟩, ⟨?_, ?_⟩, ⟨?_, ?_⟩, ⟨?_, ?_⟩⟩ <;> refine kc hb ?_ <;> (go_simp; first | done | rfl)
    have hz := hb.size
    (try simp only [World.size_alloc, World.size_setCell, World.size_drew] at hz)
    have L : w.heap.size < y2.heap.size ∧ w.heap.size + 1 < y2.heap.size := by omega
    have hB' : Below w.heap.size w y2 := by
        refine kb ?_ hb
        go_grown
    clear hp_0 hp_1 hp_2 hp_3 hq_0 hq_1 hq_2 hq_3 hlp hlq hnp0 hnp1 hkp1 hnp2 hkp2 hnq0 hkq1 hB hsz
    clear hb hz
    obtain ⟨⟨hp_0, hp_1⟩, ⟨hp_2, hp_3⟩, ⟨hq_0, hq_1⟩, ⟨hq_2, hq_3⟩⟩ := T
    obtain ⟨hlp, hlq⟩ := L
    obtain ⟨hnp0, hnp1, hkp1, hnp2, hkp2⟩ := ap0 hlp
    obtain ⟨hnq0, hkq1⟩ := ap1 hlq
    have hB := hB'; clear hB'
    have hsz := hB.size
    go_wp2_with fail
    ((with_reducible refine (HA.out _ hB).mono ?_); rintro _ y3 ⟨rfl, hb⟩)
    have T : CC y3 w.heap.size 0 1 (.slice a1 n1 c1) (.slice a2 n2 c2) ∧ CC y3 w.heap.size 2 3 (.int .i64 pd) (.int .i64 pt) ∧ CC y3 (w.heap.size + 1) 0 1 (.slice b1 m1 e1) (.slice b2 m2 e2) ∧ CC y3 (w.heap.size + 1) 2 3 (.int .i64 qd) (.int .i64 qt) := by
        refine ⟨⟨?_, ?_⟩, ⟨?_, ?_⟩, ⟨?_, ?_⟩, ⟨?_, ?_⟩⟩ <;> refine kc hb ?_ <;> (go_simp; first | done | rfl)
    have hz := hb.size
    (try simp only [World.size_alloc, World.size_setCell, World.size_drew] at hz)
    have L : w.heap.size < y3.heap.size ∧ w.heap.size + 1 < y3.heap.size := by omega
    have hB' : Below w.heap.size w y3 := by
        refine kb ?_ hb
        go_grown
    clear hp_0 hp_1 hp_2 hp_3 hq_0 hq_1 hq_2 hq_3 hlp hlq hnp0 hnp1 hkp1 hnp2 hkp2 hnq0 hkq1 hB hsz
    clear hb hz
    obtain ⟨⟨hp_0, hp_1⟩, ⟨hp_2, hp_3⟩, ⟨hq_0, hq_1⟩, ⟨hq_2, hq_3⟩⟩ := T
    obtain ⟨hlp, hlq⟩ := L
    obtain ⟨hnp0, hnp1, hkp1, hnp2, hkp2⟩ := ap0 hlp
    obtain ⟨hnq0, hkq1⟩ := ap1 hlq
    have hB := hB'; clear hB'
    have hsz := hB.size
    go_wp2
    go_ret
    exact ⟨rfl, hB⟩
set_option maxRecDepth 100000 in
set_option maxHeartbeats 8000000 in
theorem checks_ok (P Q : Pol) (hbP : Bits P) (hbQ : Bits Q) (v u : Value) (w : World) (hv : HoldsP w v P) (hu : HoldsP w u Q) (hT : w.cell? ⟨5, 15, none⟩ = some (.int .u8 4)) (hFP : P.s.length ≤ 80 ∧ P.k.length ≤ 80) (hFQ : Q.s.length ≤ 80 ∧ Q.k.length ≤ 80) : Calls Tryz.prog 3 #[v, u] w (LawEnd w) := by
  have HA := Lib.hid (fun W (hb : Below w.heap.size w W) => awake7_c W (kc hb hT))
  have HFp := Lib.hid (fun W (hb : Below w.heap.size w W) => few_c P v W (hv.below hb))
  have HFq := Lib.hid (fun W (hb : Below w.heap.size w W) => few_c Q u W (hu.below hb))
  rw [decide_eq_true hFP.1, decide_eq_true hFP.2] at HFp
  rw [decide_eq_true hFQ.1, decide_eq_true hFQ.2] at HFq
  have HPp := Lib.hid (fun W (hb : Below w.heap.size w W) => Plain7f_c P ⟨by omega, by omega⟩ hbP v W (hv.below hb))
  have HPq := Lib.hid (fun W (hb : Below w.heap.size w W) => Plain7f_c Q ⟨by omega, by omega⟩ hbQ u W (hu.below hb))
  have HCr := Lib.hid (fun v1 v2 W h1 h2 => checkr_c P ⟨by omega, by omega⟩ v1 v2 W h1 h2)
  rw [← check_eq hbP] at HCr
  have HPr := Lib.hid (fun W (hb : Below w.heap.size w W) => print_c P ⟨by omega, by omega⟩ hbP v W (hv.below hb) (kc hb hT))
  have HCl := Lib.hid (fun W (hb : Below w.heap.size w W) => check_c P ⟨by omega, by omega⟩ v W (hv.below hb))
  have HPd := Lib.hid (fun v1 v2 W h1 h2 => printr_c P ⟨by omega, by omega⟩ v1 v2 W h1 h2)
  have HSs := Lib.hid (fun v1 W h => sortd_c P.s (by omega) v1 W h)
  have HSk := Lib.hid (fun v1 W h => sortd_c P.k (by omega) v1 W h)
  have HOs := Lib.hid (fun v1 W h => sortd_c Q.s (by omega) v1 W h)
  have HOk := Lib.hid (fun v1 W h => sortd_c Q.k (by omega) v1 W h)
  have l1 : (sortS P.s).length = P.s.length := sortS_len _
  have l2 : (sortS P.k).length = P.k.length := sortS_len _
  have l3 : (sortS Q.s).length = Q.s.length := sortS_len _
  have l4 : (sortS Q.k).length = Q.k.length := sortS_len _
  have HE1 := Lib.hid (fun v1 v2 W h1 h2 => spans_c (sortS P.s) (sortS Q.s) ⟨by omega, by omega⟩ v1 v2 W h1 h2)
  have HE2 := Lib.hid (fun v1 v2 W h1 h2 => spans_c (sortS P.k) (sortS Q.k) ⟨by omega, by omega⟩ v1 v2 W h1 h2)
  have HSo := Lib.hid (fun W (hb : Below w.heap.size w W) => sorted_c P ⟨by omega, by omega⟩ v W (hv.below hb))
  have HIs := Lib.hid (fun x q W hx hq => is_c (sortP P) ⟨by show (sortS P.s).length ≤ 1000; omega, by show (sortS P.k).length ≤ 1000; omega⟩ hbP.sort x q W hx hq)
  have HM1 := Lib.hid (fun W (hb : Below w.heap.size w W) => same_c P Q ⟨by omega, by omega⟩ ⟨by omega, by omega⟩ v u W (hv.below hb) (hu.below hb))
  have HM2 := Lib.hid (fun W (hb : Below w.heap.size w W) => same_c Q P ⟨by omega, by omega⟩ ⟨by omega, by omega⟩ u v W (hu.below hb) (hv.below hb))
  rw [show decide (sortP Q = sortP P) = decide (sortP P = sortP Q) from decide_eq_decide.2 eq_comm] at HM2
  have hw := same_ways P Q
  obtain ⟨SM, hSM⟩ : ∃ S, decide (sortP P = sortP Q) = S := ⟨_, rfl⟩
  rw [hSM] at hw HM1 HM2
  obtain ⟨S1, hS1⟩ : ∃ S, decide (sortS P.s = sortS Q.s) = S := ⟨_, rfl⟩
  rw [hS1] at hw HE1
  obtain ⟨S2, hS2⟩ : ∃ S, decide (sortS P.k = sortS Q.k) = S := ⟨_, rfl⟩
  rw [hS2] at hw HE2
  have hsn := print_snd hbP
  have ht0 : checkM P = 0 → txB (printD P) = txB (printM P).1 := fun h => by rw [print_eq h hbP]
  have ht1 : checkM P ≠ 0 → txB (printM P).1 = ⟨#[]⟩ := fun h => print_none h
  rw [hsn] at HPr
  obtain ⟨E, hE⟩ : ∃ E, checkM P = E := ⟨_, rfl⟩
  rw [hE] at HCr HPr HCl ht0 ht1
  generalize txB (printM P).1 = T at *
  generalize txB (printD P) = T' at *
  have HT0 := Lib.hid ht0
  have HT1 := Lib.hid ht1
  have HW := Lib.hid hw
  unfold sortP at HIs HSo
  unfold AnsP at HSo
  obtain ⟨v1, v2, rfl, h1, h2⟩ := hv
  obtain ⟨u1', u2', rfl, h3, h4⟩ := hu
  obtain ⟨a1, c1, rfl⟩ := h1.form
  obtain ⟨a2, c2, rfl⟩ := h2.form
  obtain ⟨b1, e1, rfl⟩ := h3.form
  obtain ⟨b2, e2, rfl⟩ := h4.form
  obtain ⟨ps, pk, pd, pt⟩ := P
  obtain ⟨qs, qk, qd, qt⟩ := Q
  dsimp only at HFp HFq HPp HPq HCr HPr HCl HPd HSs HSk HOs HOk HE1 HE2 HSo HIs HM1 HM2 HW l1 l2 l3 l4 ⊢
  obtain ⟨n1, hn1⟩ : ∃ n, ps.length = n := ⟨_, rfl⟩
  obtain ⟨n2, hn2⟩ : ∃ n, pk.length = n := ⟨_, rfl⟩
  obtain ⟨m1, hm1⟩ : ∃ n, qs.length = n := ⟨_, rfl⟩
  obtain ⟨m2, hm2⟩ : ∃ n, qk.length = n := ⟨_, rfl⟩
  rw [hn1] at l1
  rw [hn2] at l2
  rw [hm1] at l3
  rw [hm2] at l4
  rw [hn1, hn2] at HFp HPp HPr HCl HSo HM1 HM2 ⊢
  rw [hm1, hm2] at HFq HPq HM1 HM2 ⊢
  rw [hn1] at HSs
  rw [hn2] at HSk
  rw [hm1] at HOs
  rw [hm2] at HOk
  have HN := Lib.hid (And.intro (And.intro hn1 hn2) (And.intro hm1 hm2))
  have HL := Lib.hid (And.intro (And.intro l1 l2) (And.intro l3 l4))
  clear h1 h2 h3 h4 hn1 hn2 hm1 hm2 l1 l2 l3 l4 hbP hbQ hFP hFQ hw hSM hS1 hS2 hsn ht0 ht1 hE
  have hEE : (E != E) = false := by simp
  go_enter Tryz.func3, Tryz.ntmps3
  go_wp2_with fail
  ((with_reducible refine (HFp.out _ (by go_grown)).mono ?_); rintro _ y1 ⟨rfl, hb⟩)
  have T : CC y1 w.heap.size 0 1 (.slice a1 n1 c1) (.slice a2 n2 c2) ∧ CC y1 w.heap.size 2 3 (.int .i64 pd) (.int .i64 pt) ∧ CC y1 (w.heap.size + 1) 0 1 (.slice b1 m1 e1) (.slice b2 m2 e2) ∧ CC y1 (w.heap.size + 1) 2 3 (.int .i64 qd) (.int .i64 qt) := by
      refine ⟨⟨?_, ?_⟩, ⟨?_, ?_⟩, ⟨?_, ?_⟩, ⟨?_, ?_⟩⟩ <;> refine kc hb ?_ <;> (go_simp; first | done | rfl)
  have hz := hb.size
  (try simp only [World.size_alloc, World.size_setCell, World.size_drew] at hz)
  have L : w.heap.size < y1.heap.size ∧ w.heap.size + 1 < y1.heap.size := by omega
  have hB' : Below w.heap.size w y1 := by
      refine kb ?_ hb
      go_grown
  clear hb hz
  obtain ⟨⟨hp_0, hp_1⟩, ⟨hp_2, hp_3⟩, ⟨hq_0, hq_1⟩, ⟨hq_2, hq_3⟩⟩ := T
  obtain ⟨hlp, hlq⟩ := L
  obtain ⟨hnp0, hnp1, hkp1, hnp2, hkp2⟩ := ap0 hlp
  obtain ⟨hnq0, hkq1⟩ := ap1 hlq
  have hB := hB'; clear hB'
  have hsz := hB.size
  go_wp2_with fail
  ((with_reducible refine (HFq.out _ hB).mono ?_); rintro _ y2 ⟨rfl, hb⟩)
  have T : CC y2 w.heap.size 0 1 (.slice a1 n1 c1) (.slice a2 n2 c2) ∧ CC y2 w.heap.size 2 3 (.int .i64 pd) (.int .i64 pt) ∧ CC y2 (w.heap.size + 1) 0 1 (.slice b1 m1 e1) (.slice b2 m2 e2) ∧ CC y2 (w.heap.size + 1) 2 3 (.int .i64 qd) (.int .i64 qt) := by
      refine ⟨⟨?_, ?_⟩, ⟨?_, ?_⟩, ⟨?_, ?_⟩, ⟨?_, ?_⟩⟩ <;> refine kc hb ?_ <;> (go_simp; first | done | rfl)
  have hz := hb.size
  (try simp only [World.size_alloc, World.size_setCell, World.size_drew] at hz)
  have L : w.heap.size < y2.heap.size ∧ w.heap.size + 1 < y2.heap.size := by omega
  have hB' : Below w.heap.size w y2 := by
      refine kb ?_ hb
      go_grown
  clear hp_0 hp_1 hp_2 hp_3 hq_0 hq_1 hq_2 hq_3 hlp hlq hnp0 hnp1 hkp1 hnp2 hkp2 hnq0 hkq1 hB hsz
  clear hb hz
  obtain ⟨⟨hp_0, hp_1⟩, ⟨hp_2, hp_3⟩, ⟨hq_0, hq_1⟩, ⟨hq_2, hq_3⟩⟩ := T
  obtain ⟨hlp, hlq⟩ := L
  obtain ⟨hnp0, hnp1, hkp1, hnp2, hkp2⟩ := ap0 hlp
  obtain ⟨hnq0, hkq1⟩ := ap1 hlq
  have hB := hB'; clear hB'
  have hsz := hB.size
  go_wp2_with fail
  ((with_reducible refine (HPp.out _ hB).mono ?_); rintro _ y3 ⟨x1, x2, rfl, h1, h2, _, _, hb⟩)
  have hs_y3 := Lib.hid hb
  have T : CC y3 w.heap.size 0 1 (.slice a1 n1 c1) (.slice a2 n2 c2) ∧ CC y3 w.heap.size 2 3 (.int .i64 pd) (.int .i64 pt) ∧ CC y3 (w.heap.size + 1) 0 1 (.slice b1 m1 e1) (.slice b2 m2 e2) ∧ CC y3 (w.heap.size + 1) 2 3 (.int .i64 qd) (.int .i64 qt) := by
      refine ⟨⟨?_, ?_⟩, ⟨?_, ?_⟩, ⟨?_, ?_⟩, ⟨?_, ?_⟩⟩ <;> refine kc hb ?_ <;> (go_simp; first | done | rfl)
  have hz := hb.size
  (try simp only [World.size_alloc, World.size_setCell, World.size_drew] at hz)
  have L : w.heap.size < y3.heap.size ∧ w.heap.size + 1 < y3.heap.size := by omega
  have hB' : Below w.heap.size w y3 := by
      refine kb ?_ hb
      go_grown
  clear hp_0 hp_1 hp_2 hp_3 hq_0 hq_1 hq_2 hq_3 hlp hlq hnp0 hnp1 hkp1 hnp2 hkp2 hnq0 hkq1 hB hsz
  clear hb hz
  obtain ⟨⟨hp_0, hp_1⟩, ⟨hp_2, hp_3⟩, ⟨hq_0, hq_1⟩, ⟨hq_2, hq_3⟩⟩ := T
  obtain ⟨hlp, hlq⟩ := L
  obtain ⟨hnp0, hnp1, hkp1, hnp2, hkp2⟩ := ap0 hlp
  obtain ⟨hnq0, hkq1⟩ := ap1 hlq
  have hB := hB'; clear hB'
  have hsz := hB.size
  have HQ3 := Lib.hid (show w.heap.size + 1 < y3.heap.size from hlq)
  obtain ⟨p1, k1, rfl⟩ := h1.form
  obtain ⟨p2, k2, rfl⟩ := h2.form
  rw [HN.out.1.1] at h1 ⊢
  rw [HN.out.1.2] at h2 ⊢
  have D1 := Lib.hid h1
  have D2 := Lib.hid h2
  clear h1 h2
  go_wp2_with fail
  ((with_reducible refine (HPq.out _ (by go_grown)).mono ?_); rintro _ y4 ⟨x3, x4, rfl, h3, h4, g3, g4, hb⟩)
  have hs_y4 := Lib.hid hb
  have T : CC y4 w.heap.size 0 1 (.slice a1 n1 c1) (.slice a2 n2 c2) ∧ CC y4 w.heap.size 2 3 (.int .i64 pd) (.int .i64 pt) ∧ CC y4 (w.heap.size + 1) 0 1 (.slice b1 m1 e1) (.slice b2 m2 e2) ∧ CC y4 (w.heap.size + 1) 2 3 (.int .i64 qd) (.int .i64 qt) ∧ CF y4 y3.heap.size 0 (.slice p1 n1 k1) ∧ CF y4 y3.heap.size 1 (.slice p2 n2 k2) ∧ CF y4 y3.heap.size 2 (.int .i64 pd) ∧ CF y4 y3.heap.size 3 (.int .i64 pt) := by
      refine ⟨⟨?_, ?_⟩, ⟨?_, ?_⟩, ⟨?_, ?_⟩, ⟨?_, ?_⟩, ⟨?_, ?_⟩, ⟨?_, ?_⟩, ⟨?_, ?_⟩, ⟨?_, ?_⟩⟩ <;> first | (refine kc hb ?_ <;> (go_simp; first | done | rfl)) | (refine kfz hb ?_ ?_ <;> first | (go_size; done) | (go_simp; done))
  have hz := hb.size
  (try simp only [World.size_alloc, World.size_setCell, World.size_drew] at hz)
  have L : w.heap.size < y4.heap.size ∧ w.heap.size + 1 < y4.heap.size ∧ y3.heap.size < y4.heap.size := by omega
  have hB' : Below w.heap.size w y4 := by
      refine kb ?_ hb
      go_grown
  clear hp_0 hp_1 hp_2 hp_3 hq_0 hq_1 hq_2 hq_3 hlp hlq hnp0 hnp1 hkp1 hnp2 hkp2 hnq0 hkq1 hB hsz
  clear hb hz
  obtain ⟨⟨hp_0, hp_1⟩, ⟨hp_2, hp_3⟩, ⟨hq_0, hq_1⟩, ⟨hq_2, hq_3⟩, ⟨hr_0, fr_0⟩, ⟨hr_1, fr_1⟩, ⟨hr_2, fr_2⟩, ⟨hr_3, fr_3⟩⟩ := T
  obtain ⟨hlp, hlq, hlr⟩ := L
  obtain ⟨hnp0, hnp1, hkp1, hnp2, hkp2⟩ := ap0 hlp
  obtain ⟨hnq0, hkq1⟩ := ap1 hlq
  obtain ⟨hnr0, hnr1, hkr1, hnr2, hkr2⟩ := ap0 hlr
  have hB := hB'; clear hB'
  have hsz := hB.size
  obtain ⟨p3, k3, rfl⟩ := h3.form
  obtain ⟨p4, k4, rfl⟩ := h4.form
  rw [HN.out.2.1] at h3 g3 ⊢
  rw [HN.out.2.2] at h4 g4 ⊢
  have hb4 : Below y3.heap.size y3 y4 := ((Below.refl _ y3).alloc (Nat.le_refl _) _).trans (hs_y4.out.mono (by simp))
  have hr34 : y3.heap.size < y4.heap.size := hlr
  have hr34' : ¬ y3.heap.size = y4.heap.size := by omega
  have hr43' : ¬ y4.heap.size = y3.heap.size := by omega
  replace D1 := Lib.hid ((Dk.of_old (B1 := y3.heap.size) (B2 := y4.heap.size) D1.out (Nat.le_refl _) (by omega)).below hb4)
  replace D2 := Lib.hid ((Dk.of_old (B1 := y3.heap.size) (B2 := y4.heap.size) D2.out (Nat.le_refl _) (by omega)).below hb4)
  have hkk : ∀ {l : List Sp} {v : Value}, HoldsD y4 v l → (∀ g, v.ownBlock = some g → y3.heap.size + 1 ≤ g) → Dk y3.heap.size y4.heap.size y4 v l := fun {l v} h hg => ⟨h, fun hl g e => ⟨by have := hg g e; omega, (((Dk.of_old (B1 := y4.heap.size) (B2 := y4.heap.size) h (Nat.le_refl _) (Nat.le_refl _)).2 hl g e).1)⟩⟩
  have D3 := Lib.hid (hkk h3 (fun g e => by have := g3 g e; simpa using this))
  have D4 := Lib.hid (hkk h4 (fun g e => by have := g4 g e; simpa using this))
  clear h3 h4 g3 g4 hb4 hkk
  go_wp2_with fail
  ((with_reducible refine (HCr.out _ _ _ (D1.out.al _).h (D2.out.al _).h).mono ?_); rintro _ y5 ⟨rfl, hb⟩)
  have hs_y5 := Lib.hid hb
  have T : CC y5 w.heap.size 0 1 (.slice a1 n1 c1) (.slice a2 n2 c2) ∧ CC y5 w.heap.size 2 3 (.int .i64 pd) (.int .i64 pt) ∧ CC y5 (w.heap.size + 1) 0 1 (.slice b1 m1 e1) (.slice b2 m2 e2) ∧ CC y5 (w.heap.size + 1) 2 3 (.int .i64 qd) (.int .i64 qt) ∧ CF y5 y3.heap.size 0 (.slice p1 n1 k1) ∧ CF y5 y3.heap.size 1 (.slice p2 n2 k2) ∧ CF y5 y3.heap.size 2 (.int .i64 pd) ∧ CF y5 y3.heap.size 3 (.int .i64 pt) ∧ CF y5 y4.heap.size 0 (.slice p3 m1 k3) ∧ CF y5 y4.heap.size 1 (.slice p4 m2 k4) ∧ CF y5 y4.heap.size 2 (.int .i64 qd) ∧ CF y5 y4.heap.size 3 (.int .i64 qt) := by
      refine ⟨⟨?_, ?_⟩, ⟨?_, ?_⟩, ⟨?_, ?_⟩, ⟨?_, ?_⟩, ⟨?_, ?_⟩, ⟨?_, ?_⟩, ⟨?_, ?_⟩, ⟨?_, ?_⟩, ⟨?_, ?_⟩, ⟨?_, ?_⟩, ⟨?_, ?_⟩, ⟨?_, ?_⟩⟩ <;> first | (refine kc hb ?_ <;> (go_simp; first | done | rfl)) | (refine kfz hb ?_ ?_ <;> first | (go_size; done) | (go_simp; done))
  have hz := hb.size
  (try simp only [World.size_alloc, World.size_setCell, World.size_drew] at hz)
  have L : w.heap.size < y5.heap.size ∧ w.heap.size + 1 < y5.heap.size ∧ y3.heap.size < y5.heap.size ∧ y4.heap.size < y5.heap.size := by omega
  have hB' : Below w.heap.size w y5 := by
      refine kb ?_ hb
      go_grown
  clear hp_0 hp_1 hp_2 hp_3 hq_0 hq_1 hq_2 hq_3 hr_0 fr_0 hr_1 fr_1 hr_2 fr_2 hr_3 fr_3 hlp hlq hlr hnp0 hnp1 hkp1 hnp2 hkp2 hnq0 hkq1 hnr0 hnr1 hkr1 hnr2 hkr2 hB hsz
  clear hb hz
  obtain ⟨⟨hp_0, hp_1⟩, ⟨hp_2, hp_3⟩, ⟨hq_0, hq_1⟩, ⟨hq_2, hq_3⟩, ⟨hr_0, fr_0⟩, ⟨hr_1, fr_1⟩, ⟨hr_2, fr_2⟩, ⟨hr_3, fr_3⟩, ⟨ho_0, fo_0⟩, ⟨ho_1, fo_1⟩, ⟨ho_2, fo_2⟩, ⟨ho_3, fo_3⟩⟩ := T
  obtain ⟨hlp, hlq, hlr, hlo⟩ := L
  obtain ⟨hnp0, hnp1, hkp1, hnp2, hkp2⟩ := ap0 hlp
  obtain ⟨hnq0, hkq1⟩ := ap1 hlq
  obtain ⟨hnr0, hnr1, hkr1, hnr2, hkr2⟩ := ap0 hlr
  obtain ⟨hno0, hno1, hko1, hno2, hko2⟩ := ap0 hlo
  have hB := hB'; clear hB'
  have hsz := hB.size
  replace D1 := Lib.hid ((D1.out.al _).below hs_y5.out)
  replace D2 := Lib.hid ((D2.out.al _).below hs_y5.out)
  replace D3 := Lib.hid ((D3.out.al _).below hs_y5.out)
  replace D4 := Lib.hid ((D4.out.al _).below hs_y5.out)
  go_wp2_with fail
  ((with_reducible refine (HPr.out _ hB).mono ?_); rintro _ y6 ⟨rfl, hb⟩)
  have hs_y6 := Lib.hid hb
  have T : CC y6 w.heap.size 0 1 (.slice a1 n1 c1) (.slice a2 n2 c2) ∧ CC y6 w.heap.size 2 3 (.int .i64 pd) (.int .i64 pt) ∧ CC y6 (w.heap.size + 1) 0 1 (.slice b1 m1 e1) (.slice b2 m2 e2) ∧ CC y6 (w.heap.size + 1) 2 3 (.int .i64 qd) (.int .i64 qt) ∧ CF y6 y3.heap.size 0 (.slice p1 n1 k1) ∧ CF y6 y3.heap.size 1 (.slice p2 n2 k2) ∧ CF y6 y3.heap.size 2 (.int .i64 pd) ∧ CF y6 y3.heap.size 3 (.int .i64 pt) ∧ CF y6 y4.heap.size 0 (.slice p3 m1 k3) ∧ CF y6 y4.heap.size 1 (.slice p4 m2 k4) ∧ CF y6 y4.heap.size 2 (.int .i64 qd) ∧ CF y6 y4.heap.size 3 (.int .i64 qt) := by
      refine ⟨⟨?_, ?_⟩, ⟨?_, ?_⟩, ⟨?_, ?_⟩, ⟨?_, ?_⟩, ⟨?_, ?_⟩, ⟨?_, ?_⟩, ⟨?_, ?_⟩, ⟨?_, ?_⟩, ⟨?_, ?_⟩, ⟨?_, ?_⟩, ⟨?_, ?_⟩, ⟨?_, ?_⟩⟩ <;> first | (refine kc hb ?_ <;> (go_simp; first | done | rfl)) | (refine kfz hb ?_ ?_ <;> first | (go_size; done) | (go_simp; done))
  have hz := hb.size
  (try simp only [World.size_alloc, World.size_setCell, World.size_drew] at hz)
  have L : w.heap.size < y6.heap.size ∧ w.heap.size + 1 < y6.heap.size ∧ y3.heap.size < y6.heap.size ∧ y4.heap.size < y6.heap.size := by omega
  have hB' : Below w.heap.size w y6 := by
      refine kb ?_ hb
      go_grown
  clear hp_0 hp_1 hp_2 hp_3 hq_0 hq_1 hq_2 hq_3 hr_0 fr_0 hr_1 fr_1 hr_2 fr_2 hr_3 fr_3 ho_0 fo_0 ho_1 fo_1 ho_2 fo_2 ho_3 fo_3 hlp hlq hlr hlo hnp0 hnp1 hkp1 hnp2 hkp2 hnq0 hkq1 hnr0 hnr1 hkr1 hnr2 hkr2 hno0 hno1 hko1 hno2 hko2 hB hsz
  clear hb hz
  obtain ⟨⟨hp_0, hp_1⟩, ⟨hp_2, hp_3⟩, ⟨hq_0, hq_1⟩, ⟨hq_2, hq_3⟩, ⟨hr_0, fr_0⟩, ⟨hr_1, fr_1⟩, ⟨hr_2, fr_2⟩, ⟨hr_3, fr_3⟩, ⟨ho_0, fo_0⟩, ⟨ho_1, fo_1⟩, ⟨ho_2, fo_2⟩, ⟨ho_3, fo_3⟩⟩ := T
  obtain ⟨hlp, hlq, hlr, hlo⟩ := L
  obtain ⟨hnp0, hnp1, hkp1, hnp2, hkp2⟩ := ap0 hlp
  obtain ⟨hnq0, hkq1⟩ := ap1 hlq
  obtain ⟨hnr0, hnr1, hkr1, hnr2, hkr2⟩ := ap0 hlr
  obtain ⟨hno0, hno1, hko1, hno2, hko2⟩ := ap0 hlo
  have hB := hB'; clear hB'
  have hsz := hB.size
  replace D1 := Lib.hid (D1.out.below hs_y6.out)
  replace D2 := Lib.hid (D2.out.below hs_y6.out)
  replace D3 := Lib.hid (D3.out.below hs_y6.out)
  replace D4 := Lib.hid (D4.out.below hs_y6.out)
  go_wp2_with fail
  ((with_reducible refine (HCl.out _ hB).mono ?_); rintro _ y7 ⟨rfl, hb⟩)
  have hs_y7 := Lib.hid hb
  have T : CC y7 w.heap.size 0 1 (.slice a1 n1 c1) (.slice a2 n2 c2) ∧ CC y7 w.heap.size 2 3 (.int .i64 pd) (.int .i64 pt) ∧ CC y7 (w.heap.size + 1) 0 1 (.slice b1 m1 e1) (.slice b2 m2 e2) ∧ CC y7 (w.heap.size + 1) 2 3 (.int .i64 qd) (.int .i64 qt) ∧ CF y7 y3.heap.size 0 (.slice p1 n1 k1) ∧ CF y7 y3.heap.size 1 (.slice p2 n2 k2) ∧ CF y7 y3.heap.size 2 (.int .i64 pd) ∧ CF y7 y3.heap.size 3 (.int .i64 pt) ∧ CF y7 y4.heap.size 0 (.slice p3 m1 k3) ∧ CF y7 y4.heap.size 1 (.slice p4 m2 k4) ∧ CF y7 y4.heap.size 2 (.int .i64 qd) ∧ CF y7 y4.heap.size 3 (.int .i64 qt) := by
      refine ⟨⟨?_, ?_⟩, ⟨?_, ?_⟩, ⟨?_, ?_⟩, ⟨?_, ?_⟩, ⟨?_, ?_⟩, ⟨?_, ?_⟩, ⟨?_, ?_⟩, ⟨?_, ?_⟩, ⟨?_, ?_⟩, ⟨?_, ?_⟩, ⟨?_, ?_⟩, ⟨?_, ?_⟩⟩ <;> first | (refine kc hb ?_ <;> (go_simp; first | done | rfl)) | (refine kfz hb ?_ ?_ <;> first | (go_size; done) | (go_simp; done))
  have hz := hb.size
  (try simp only [World.size_alloc, World.size_setCell, World.size_drew] at hz)
  have L : w.heap.size < y7.heap.size ∧ w.heap.size + 1 < y7.heap.size ∧ y3.heap.size < y7.heap.size ∧ y4.heap.size < y7.heap.size := by omega
  have hB' : Below w.heap.size w y7 := by
      refine kb ?_ hb
      go_grown
  clear hp_0 hp_1 hp_2 hp_3 hq_0 hq_1 hq_2 hq_3 hr_0 fr_0 hr_1 fr_1 hr_2 fr_2 hr_3 fr_3 ho_0 fo_0 ho_1 fo_1 ho_2 fo_2 ho_3 fo_3 hlp hlq hlr hlo hnp0 hnp1 hkp1 hnp2 hkp2 hnq0 hkq1 hnr0 hnr1 hkr1 hnr2 hkr2 hno0 hno1 hko1 hno2 hko2 hB hsz
  clear hb hz
  obtain ⟨⟨hp_0, hp_1⟩, ⟨hp_2, hp_3⟩, ⟨hq_0, hq_1⟩, ⟨hq_2, hq_3⟩, ⟨hr_0, fr_0⟩, ⟨hr_1, fr_1⟩, ⟨hr_2, fr_2⟩, ⟨hr_3, fr_3⟩, ⟨ho_0, fo_0⟩, ⟨ho_1, fo_1⟩, ⟨ho_2, fo_2⟩, ⟨ho_3, fo_3⟩⟩ := T
  obtain ⟨hlp, hlq, hlr, hlo⟩ := L
  obtain ⟨hnp0, hnp1, hkp1, hnp2, hkp2⟩ := ap0 hlp
  obtain ⟨hnq0, hkq1⟩ := ap1 hlq
  obtain ⟨hnr0, hnr1, hkr1, hnr2, hkr2⟩ := ap0 hlr
  obtain ⟨hno0, hno1, hko1, hno2, hko2⟩ := ap0 hlo
  have hB := hB'; clear hB'
  have hsz := hB.size
  replace D1 := Lib.hid (D1.out.below hs_y7.out)
  replace D2 := Lib.hid (D2.out.below hs_y7.out)
  replace D3 := Lib.hid (D3.out.below hs_y7.out)
  replace D4 := Lib.hid (D4.out.below hs_y7.out)
  clear hs_y3 hs_y4 hs_y5 hs_y6 hs_y7
  go_upto_region 9 with fail
  go_cut [55] (fun s55 wx => s55 = .bool false ∧ Hid ((Dk y3.heap.size y4.heap.size wx (.slice p1 n1 k1) ps ∧ Dk y3.heap.size y4.heap.size wx (.slice p2 n2 k2) pk) ∧ Dk y3.heap.size y4.heap.size wx (.slice p3 m1 k3) qs ∧ Dk y3.heap.size y4.heap.size wx (.slice p4 m2 k4) qk) ∧ wx.cell? ⟨w.heap.size, 0, none⟩ = some (.slice a1 n1 c1) ∧ wx.cell? ⟨w.heap.size, 1, none⟩ = some (.slice a2 n2 c2) ∧ wx.cell? ⟨w.heap.size, 2, none⟩ = some (.int .i64 pd) ∧ wx.cell? ⟨w.heap.size, 3, none⟩ = some (.int .i64 pt) ∧ wx.cell? ⟨w.heap.size + 1, 0, none⟩ = some (.slice b1 m1 e1) ∧ wx.cell? ⟨w.heap.size + 1, 1, none⟩ = some (.slice b2 m2 e2) ∧ wx.cell? ⟨w.heap.size + 1, 2, none⟩ = some (.int .i64 qd) ∧ wx.cell? ⟨w.heap.size + 1, 3, none⟩ = some (.int .i64 qt) ∧ wx.cell? ⟨y3.heap.size, 0, none⟩ = some (.slice p1 n1 k1) ∧ wx.frozen? ⟨y3.heap.size, 0, none⟩ = false ∧ wx.cell? ⟨y3.heap.size, 1, none⟩ = some (.slice p2 n2 k2) ∧ wx.frozen? ⟨y3.heap.size, 1, none⟩ = false ∧ wx.cell? ⟨y3.heap.size, 2, none⟩ = some (.int .i64 pd) ∧ wx.frozen? ⟨y3.heap.size, 2, none⟩ = false ∧ wx.cell? ⟨y3.heap.size, 3, none⟩ = some (.int .i64 pt) ∧ wx.frozen? ⟨y3.heap.size, 3, none⟩ = false ∧ wx.cell? ⟨y4.heap.size, 0, none⟩ = some (.slice p3 m1 k3) ∧ wx.frozen? ⟨y4.heap.size, 0, none⟩ = false ∧ wx.cell? ⟨y4.heap.size, 1, none⟩ = some (.slice p4 m2 k4) ∧ wx.frozen? ⟨y4.heap.size, 1, none⟩ = false ∧ wx.cell? ⟨y4.heap.size, 2, none⟩ = some (.int .i64 qd) ∧ wx.frozen? ⟨y4.heap.size, 2, none⟩ = false ∧ wx.cell? ⟨y4.heap.size, 3, none⟩ = some (.int .i64 qt) ∧ wx.frozen? ⟨y4.heap.size, 3, none⟩ = false ∧ Below w.heap.size w wx)
  case first =>
    by_cases h0 : E = 0
    · have hT2 := HT0.out h0
      subst h0
      subst hT2
      go_wp2_with fail
      ((with_reducible refine (HPd.out _ _ _ D1.out.h D2.out.h).mono ?_); rintro _ y8 ⟨rfl, hb⟩)
      have hs_y8 := Lib.hid hb
      have T : CC y8 w.heap.size 0 1 (.slice a1 n1 c1) (.slice a2 n2 c2) ∧ CC y8 w.heap.size 2 3 (.int .i64 pd) (.int .i64 pt) ∧ CC y8 (w.heap.size + 1) 0 1 (.slice b1 m1 e1) (.slice b2 m2 e2) ∧ CC y8 (w.heap.size + 1) 2 3 (.int .i64 qd) (.int .i64 qt) ∧ CF y8 y3.heap.size 0 (.slice p1 n1 k1) ∧ CF y8 y3.heap.size 1 (.slice p2 n2 k2) ∧ CF y8 y3.heap.size 2 (.int .i64 pd) ∧ CF y8 y3.heap.size 3 (.int .i64 pt) ∧ CF y8 y4.heap.size 0 (.slice p3 m1 k3) ∧ CF y8 y4.heap.size 1 (.slice p4 m2 k4) ∧ CF y8 y4.heap.size 2 (.int .i64 qd) ∧ CF y8 y4.heap.size 3 (.int .i64 qt) := by
          refine ⟨⟨?_, ?_⟩, ⟨?_, ?_⟩, ⟨?_, ?_⟩, ⟨?_, ?_⟩, ⟨?_, ?_⟩, ⟨?_, ?_⟩, ⟨?_, ?_⟩, ⟨?_, ?_⟩, ⟨?_, ?_⟩, ⟨?_, ?_⟩, ⟨?_, ?_⟩, ⟨?_, ?_⟩⟩ <;> first | (refine kc hb ?_ <;> (go_simp; first | done | rfl)) | (refine kfz hb ?_ ?_ <;> first | (go_size; done) | (go_simp; done))
      have hz := hb.size
      (try simp only [World.size_alloc, World.size_setCell, World.size_drew] at hz)
      have L : w.heap.size < y8.heap.size ∧ w.heap.size + 1 < y8.heap.size ∧ y3.heap.size < y8.heap.size ∧ y4.heap.size < y8.heap.size := by omega
      have hB' : Below w.heap.size w y8 := by
          refine kb ?_ hb
          go_grown
      clear hp_0 hp_1 hp_2 hp_3 hq_0 hq_1 hq_2 hq_3 hr_0 fr_0 hr_1 fr_1 hr_2 fr_2 hr_3 fr_3 ho_0 fo_0 ho_1 fo_1 ho_2 fo_2 ho_3 fo_3 hlp hlq hlr hlo hnp0 hnp1 hkp1 hnp2 hkp2 hnq0 hkq1 hnr0 hnr1 hkr1 hnr2 hkr2 hno0 hno1 hko1 hno2 hko2 hB hsz
      clear hb hz
      obtain ⟨⟨hp_0, hp_1⟩, ⟨hp_2, hp_3⟩, ⟨hq_0, hq_1⟩, ⟨hq_2, hq_3⟩, ⟨hr_0, fr_0⟩, ⟨hr_1, fr_1⟩, ⟨hr_2, fr_2⟩, ⟨hr_3, fr_3⟩, ⟨ho_0, fo_0⟩, ⟨ho_1, fo_1⟩, ⟨ho_2, fo_2⟩, ⟨ho_3, fo_3⟩⟩ := T
      obtain ⟨hlp, hlq, hlr, hlo⟩ := L
      obtain ⟨hnp0, hnp1, hkp1, hnp2, hkp2⟩ := ap0 hlp
      obtain ⟨hnq0, hkq1⟩ := ap1 hlq
      obtain ⟨hnr0, hnr1, hkr1, hnr2, hkr2⟩ := ap0 hlr
      obtain ⟨hno0, hno1, hko1, hno2, hko2⟩ := ap0 hlo
      have hB := hB'; clear hB'
      have hsz := hB.size
      go_wp2_with fail
      go_meet
      exact ⟨rfl, Lib.hid ⟨⟨D1.out.below hs_y8.out, D2.out.below hs_y8.out⟩, D3.out.below hs_y8.out, D4.out.below hs_y8.out⟩, ⟨hp_0, hp_1, hp_2, hp_3, hq_0, hq_1, hq_2, hq_3, hr_0, fr_0, hr_1, fr_1, hr_2, fr_2, hr_3, fr_3, ho_0, fo_0, ho_1, fo_1, ho_2, fo_2, ho_3, fo_3, hB⟩⟩
    · have hT2 := HT1.out h0
      subst hT2
      have e1 : (E == 0) = false := by simpa using h0
      have e2 : decide (E = 0) = false := decide_eq_false h0
      have e3 : (E != 0) = true := by simp [bne, h0]
      go_wp2_with fail
      go_meet
      exact ⟨rfl, Lib.hid ⟨⟨D1.out, D2.out⟩, D3.out, D4.out⟩, ⟨hp_0, hp_1, hp_2, hp_3, hq_0, hq_1, hq_2, hq_3, hr_0, fr_0, hr_1, fr_1, hr_2, fr_2, hr_3, fr_3, ho_0, fo_0, ho_1, fo_1, ho_2, fo_2, ho_3, fo_3, hB⟩⟩
  case rest =>
    obtain ⟨rfl, HD, hcut⟩ := hcut
    clear hp_0 hp_1 hp_2 hp_3 hq_0 hq_1 hq_2 hq_3 hr_0 fr_0 hr_1 fr_1 hr_2 fr_2 hr_3 fr_3 ho_0 fo_0 ho_1 fo_1 ho_2 fo_2 ho_3 fo_3 hlp hlq hlr hlo hnp0 hnp1 hkp1 hnp2 hkp2 hnq0 hkq1 hnr0 hnr1 hkr1 hnr2 hkr2 hno0 hno1 hko1 hno2 hko2 hB hsz
    obtain ⟨hp_0, hp_1, hp_2, hp_3, hq_0, hq_1, hq_2, hq_3, hr_0, fr_0, hr_1, fr_1, hr_2, fr_2, hr_3, fr_3, ho_0, fo_0, ho_1, fo_1, ho_2, fo_2, ho_3, fo_3, hB⟩ := hcut
    have hsz := hB.size
    have hlp := klt hp_0
    have hlq := klt hq_0
    have hlr := klt hr_0
    have hlo := klt ho_0
    obtain ⟨hnp0, hnp1, hkp1, hnp2, hkp2⟩ := ap0 hlp
    obtain ⟨hnq0, hkq1⟩ := ap1 hlq
    obtain ⟨hnr0, hnr1, hkr1, hnr2, hkr2⟩ := ap0 hlr
    obtain ⟨hno0, hno1, hko1, hno2, hko2⟩ := ap0 hlo
    have hq3 := HQ3.out
    have ap3 : ¬ w.heap.size = y3.heap.size ∧ ¬ y3.heap.size = w.heap.size ∧ ¬ w.heap.size + 1 = y3.heap.size ∧ ¬ y3.heap.size = w.heap.size + 1 := by omega
    have ap4 : ¬ w.heap.size = y4.heap.size ∧ ¬ y4.heap.size = w.heap.size ∧ ¬ w.heap.size + 1 = y4.heap.size ∧ ¬ y4.heap.size = w.heap.size + 1 := by omega
    have hw30 : w.heap.size ≤ ({ block := y3.heap.size, off := 0 } : Addr).block := by dsimp only; omega
    have hw31 : w.heap.size ≤ ({ block := y3.heap.size, off := 1 } : Addr).block := by dsimp only; omega
    have hw40 : w.heap.size ≤ ({ block := y4.heap.size, off := 0 } : Addr).block := by dsimp only; omega
    have hw41 : w.heap.size ≤ ({ block := y4.heap.size, off := 1 } : Addr).block := by dsimp only; omega
    obtain ⟨ap3a, ap3b, ap3c, ap3d⟩ := ap3
    obtain ⟨ap4a, ap4b, ap4c, ap4d⟩ := ap4
    clear hq3
    have HB4 := Lib.hid (And.intro hlr hlo)
    replace D1 := Lib.hid HD.out.1.1
    replace D2 := Lib.hid HD.out.1.2
    replace D3 := Lib.hid HD.out.2.1
    replace D4 := Lib.hid HD.out.2.2
    clear HD
    go_wp2_with fail
    ((with_reducible refine (HSs.out _ _ D1.out.h).mono ?_); rintro _ y8 ⟨s1, rfl, h1, hb⟩)
    have hs_y8 := Lib.hid hb
    have T : CC y8 w.heap.size 0 1 (.slice a1 n1 c1) (.slice a2 n2 c2) ∧ CC y8 w.heap.size 2 3 (.int .i64 pd) (.int .i64 pt) ∧ CC y8 (w.heap.size + 1) 0 1 (.slice b1 m1 e1) (.slice b2 m2 e2) ∧ CC y8 (w.heap.size + 1) 2 3 (.int .i64 qd) (.int .i64 qt) ∧ CF y8 y3.heap.size 0 (.slice p1 n1 k1) ∧ CF y8 y3.heap.size 1 (.slice p2 n2 k2) ∧ CF y8 y3.heap.size 2 (.int .i64 pd) ∧ CF y8 y3.heap.size 3 (.int .i64 pt) ∧ CF y8 y4.heap.size 0 (.slice p3 m1 k3) ∧ CF y8 y4.heap.size 1 (.slice p4 m2 k4) ∧ CF y8 y4.heap.size 2 (.int .i64 qd) ∧ CF y8 y4.heap.size 3 (.int .i64 qt) := by
        refine ⟨⟨?_, ?_⟩, ⟨?_, ?_⟩, ⟨?_, ?_⟩, ⟨?_, ?_⟩, ⟨?_, ?_⟩, ⟨?_, ?_⟩, ⟨?_, ?_⟩, ⟨?_, ?_⟩, ⟨?_, ?_⟩, ⟨?_, ?_⟩, ⟨?_, ?_⟩, ⟨?_, ?_⟩⟩ <;> first | (refine kc hb ?_ <;> (go_simp; first | done | rfl)) | (refine kfz hb ?_ ?_ <;> first | (go_size; done) | (go_simp; done))
    have hz := hb.size
    (try simp only [World.size_alloc, World.size_setCell, World.size_drew] at hz)
    have L : w.heap.size < y8.heap.size ∧ w.heap.size + 1 < y8.heap.size ∧ y3.heap.size < y8.heap.size ∧ y4.heap.size < y8.heap.size := by omega
    have hB' : Below w.heap.size w y8 := by
        refine kb ?_ hb
        go_grown
    clear hp_0 hp_1 hp_2 hp_3 hq_0 hq_1 hq_2 hq_3 hr_0 fr_0 hr_1 fr_1 hr_2 fr_2 hr_3 fr_3 ho_0 fo_0 ho_1 fo_1 ho_2 fo_2 ho_3 fo_3 hB hsz hlp hlq hlr hlo hnp0 hnp1 hkp1 hnp2 hkp2 hnq0 hkq1 hnr0 hnr1 hkr1 hnr2 hkr2 hno0 hno1 hko1 hno2 hko2
    clear hb hz
    obtain ⟨⟨hp_0, hp_1⟩, ⟨hp_2, hp_3⟩, ⟨hq_0, hq_1⟩, ⟨hq_2, hq_3⟩, ⟨hr_0, fr_0⟩, ⟨hr_1, fr_1⟩, ⟨hr_2, fr_2⟩, ⟨hr_3, fr_3⟩, ⟨ho_0, fo_0⟩, ⟨ho_1, fo_1⟩, ⟨ho_2, fo_2⟩, ⟨ho_3, fo_3⟩⟩ := T
    obtain ⟨hlp, hlq, hlr, hlo⟩ := L
    obtain ⟨hnp0, hnp1, hkp1, hnp2, hkp2⟩ := ap0 hlp
    obtain ⟨hnq0, hkq1⟩ := ap1 hlq
    obtain ⟨hnr0, hnr1, hkr1, hnr2, hkr2⟩ := ap0 hlr
    obtain ⟨hno0, hno1, hko1, hno2, hko2⟩ := ap0 hlo
    have hB := hB'; clear hB'
    have hsz := hB.size
    obtain ⟨q1, g1, rfl⟩ := own_form h1
    replace D1 := Lib.hid (Dk.of_own (B1 := y3.heap.size) (B2 := y4.heap.size) h1 HL.out.1.1.symm HB4.out.1 HB4.out.2)
    replace D2 := Lib.hid (D2.out.below hs_y8.out)
    replace D3 := Lib.hid (D3.out.below hs_y8.out)
    replace D4 := Lib.hid (D4.out.below hs_y8.out)
    replace HB4 := Lib.hid (And.intro hlr hlo)
    clear h1 hs_y8
    go_wp2_with fail
    ((with_reducible refine (HSk.out _ _ (D2.out.set1 _ _).h).mono ?_); rintro _ y9 ⟨s2, rfl, h2, hb⟩)
    have hs_y9 := Lib.hid hb
    have T : CC y9 w.heap.size 0 1 (.slice a1 n1 c1) (.slice a2 n2 c2) ∧ CC y9 w.heap.size 2 3 (.int .i64 pd) (.int .i64 pt) ∧ CC y9 (w.heap.size + 1) 0 1 (.slice b1 m1 e1) (.slice b2 m2 e2) ∧ CC y9 (w.heap.size + 1) 2 3 (.int .i64 qd) (.int .i64 qt) ∧ CF y9 y3.heap.size 0 (.slice q1 n1 g1) ∧ CF y9 y3.heap.size 1 (.slice p2 n2 k2) ∧ CF y9 y3.heap.size 2 (.int .i64 pd) ∧ CF y9 y3.heap.size 3 (.int .i64 pt) ∧ CF y9 y4.heap.size 0 (.slice p3 m1 k3) ∧ CF y9 y4.heap.size 1 (.slice p4 m2 k4) ∧ CF y9 y4.heap.size 2 (.int .i64 qd) ∧ CF y9 y4.heap.size 3 (.int .i64 qt) := by
        refine ⟨⟨?_, ?_⟩, ⟨?_, ?_⟩, ⟨?_, ?_⟩, ⟨?_, ?_⟩, ⟨?_, ?_⟩, ⟨?_, ?_⟩, ⟨?_, ?_⟩, ⟨?_, ?_⟩, ⟨?_, ?_⟩, ⟨?_, ?_⟩, ⟨?_, ?_⟩, ⟨?_, ?_⟩⟩ <;> first | (refine kc hb ?_ <;> (go_simp; first | done | rfl)) | (refine kfz hb ?_ ?_ <;> first | (go_size; done) | (go_simp; done))
    have hz := hb.size
    (try simp only [World.size_alloc, World.size_setCell, World.size_drew] at hz)
    have L : w.heap.size < y9.heap.size ∧ w.heap.size + 1 < y9.heap.size ∧ y3.heap.size < y9.heap.size ∧ y4.heap.size < y9.heap.size := by omega
    have hB' : Below w.heap.size w y9 := by
        refine kb ?_ hb
        go_grown
    clear hp_0 hp_1 hp_2 hp_3 hq_0 hq_1 hq_2 hq_3 hr_0 fr_0 hr_1 fr_1 hr_2 fr_2 hr_3 fr_3 ho_0 fo_0 ho_1 fo_1 ho_2 fo_2 ho_3 fo_3 hlp hlq hlr hlo hnp0 hnp1 hkp1 hnp2 hkp2 hnq0 hkq1 hnr0 hnr1 hkr1 hnr2 hkr2 hno0 hno1 hko1 hno2 hko2 hB hsz
    clear hb hz
    obtain ⟨⟨hp_0, hp_1⟩, ⟨hp_2, hp_3⟩, ⟨hq_0, hq_1⟩, ⟨hq_2, hq_3⟩, ⟨hr_0, fr_0⟩, ⟨hr_1, fr_1⟩, ⟨hr_2, fr_2⟩, ⟨hr_3, fr_3⟩, ⟨ho_0, fo_0⟩, ⟨ho_1, fo_1⟩, ⟨ho_2, fo_2⟩, ⟨ho_3, fo_3⟩⟩ := T
    obtain ⟨hlp, hlq, hlr, hlo⟩ := L
    obtain ⟨hnp0, hnp1, hkp1, hnp2, hkp2⟩ := ap0 hlp
    obtain ⟨hnq0, hkq1⟩ := ap1 hlq
    obtain ⟨hnr0, hnr1, hkr1, hnr2, hkr2⟩ := ap0 hlr
    obtain ⟨hno0, hno1, hko1, hno2, hko2⟩ := ap0 hlo
    have hB := hB'; clear hB'
    have hsz := hB.size
    obtain ⟨q2, g2, rfl⟩ := own_form h2
    replace D1 := Lib.hid ((D1.out.set1 _ _).below hs_y9.out)
    replace D2 := Lib.hid (Dk.of_own (B1 := y3.heap.size) (B2 := y4.heap.size) h2 HL.out.1.2.symm (by simpa using HB4.out.1) (by simpa using HB4.out.2))
    replace D3 := Lib.hid ((D3.out.set1 _ _).below hs_y9.out)
    replace D4 := Lib.hid ((D4.out.set1 _ _).below hs_y9.out)
    replace HB4 := Lib.hid (And.intro hlr hlo)
    clear h2 hs_y9
    go_wp2_with fail
    ((with_reducible refine (HOs.out _ _ (D3.out.set1 _ _).h).mono ?_); rintro _ y10 ⟨s3, rfl, h3, hb⟩)
    have hs_y10 := Lib.hid hb
    have T : CC y10 w.heap.size 0 1 (.slice a1 n1 c1) (.slice a2 n2 c2) ∧ CC y10 w.heap.size 2 3 (.int .i64 pd) (.int .i64 pt) ∧ CC y10 (w.heap.size + 1) 0 1 (.slice b1 m1 e1) (.slice b2 m2 e2) ∧ CC y10 (w.heap.size + 1) 2 3 (.int .i64 qd) (.int .i64 qt) ∧ CF y10 y3.heap.size 0 (.slice q1 n1 g1) ∧ CF y10 y3.heap.size 1 (.slice q2 n2 g2) ∧ CF y10 y3.heap.size 2 (.int .i64 pd) ∧ CF y10 y3.heap.size 3 (.int .i64 pt) ∧ CF y10 y4.heap.size 0 (.slice p3 m1 k3) ∧ CF y10 y4.heap.size 1 (.slice p4 m2 k4) ∧ CF y10 y4.heap.size 2 (.int .i64 qd) ∧ CF y10 y4.heap.size 3 (.int .i64 qt) := by
        refine ⟨⟨?_, ?_⟩, ⟨?_, ?_⟩, ⟨?_, ?_⟩, ⟨?_, ?_⟩, ⟨?_, ?_⟩, ⟨?_, ?_⟩, ⟨?_, ?_⟩, ⟨?_, ?_⟩, ⟨?_, ?_⟩, ⟨?_, ?_⟩, ⟨?_, ?_⟩, ⟨?_, ?_⟩⟩ <;> first | (refine kc hb ?_ <;> (go_simp; first | done | rfl)) | (refine kfz hb ?_ ?_ <;> first | (go_size; done) | (go_simp; done))
    have hz := hb.size
    (try simp only [World.size_alloc, World.size_setCell, World.size_drew] at hz)
    have L : w.heap.size < y10.heap.size ∧ w.heap.size + 1 < y10.heap.size ∧ y3.heap.size < y10.heap.size ∧ y4.heap.size < y10.heap.size := by omega
    have hB' : Below w.heap.size w y10 := by
        refine kb ?_ hb
        go_grown
    clear hp_0 hp_1 hp_2 hp_3 hq_0 hq_1 hq_2 hq_3 hr_0 fr_0 hr_1 fr_1 hr_2 fr_2 hr_3 fr_3 ho_0 fo_0 ho_1 fo_1 ho_2 fo_2 ho_3 fo_3 hlp hlq hlr hlo hnp0 hnp1 hkp1 hnp2 hkp2 hnq0 hkq1 hnr0 hnr1 hkr1 hnr2 hkr2 hno0 hno1 hko1 hno2 hko2 hB hsz
    clear hb hz
    obtain ⟨⟨hp_0, hp_1⟩, ⟨hp_2, hp_3⟩, ⟨hq_0, hq_1⟩, ⟨hq_2, hq_3⟩, ⟨hr_0, fr_0⟩, ⟨hr_1, fr_1⟩, ⟨hr_2, fr_2⟩, ⟨hr_3, fr_3⟩, ⟨ho_0, fo_0⟩, ⟨ho_1, fo_1⟩, ⟨ho_2, fo_2⟩, ⟨ho_3, fo_3⟩⟩ := T
    obtain ⟨hlp, hlq, hlr, hlo⟩ := L
    obtain ⟨hnp0, hnp1, hkp1, hnp2, hkp2⟩ := ap0 hlp
    obtain ⟨hnq0, hkq1⟩ := ap1 hlq
    obtain ⟨hnr0, hnr1, hkr1, hnr2, hkr2⟩ := ap0 hlr
    obtain ⟨hno0, hno1, hko1, hno2, hko2⟩ := ap0 hlo
    have hB := hB'; clear hB'
    have hsz := hB.size
    obtain ⟨q3, g3, rfl⟩ := own_form h3
    replace D1 := Lib.hid ((D1.out.set1 _ _).below hs_y10.out)
    replace D2 := Lib.hid ((D2.out.set1 _ _).below hs_y10.out)
    replace D3 := Lib.hid (Dk.of_own (B1 := y3.heap.size) (B2 := y4.heap.size) h3 HL.out.2.1.symm (by simpa using HB4.out.1) (by simpa using HB4.out.2))
    replace D4 := Lib.hid ((D4.out.set1 _ _).below hs_y10.out)
    replace HB4 := Lib.hid (And.intro hlr hlo)
    clear h3 hs_y10
    go_wp2_with fail
    ((with_reducible refine (HOk.out _ _ (D4.out.set2 _ _).h).mono ?_); rintro _ y11 ⟨s4, rfl, h4, hb⟩)
    have hs_y11 := Lib.hid hb
    have T : CC y11 w.heap.size 0 1 (.slice a1 n1 c1) (.slice a2 n2 c2) ∧ CC y11 w.heap.size 2 3 (.int .i64 pd) (.int .i64 pt) ∧ CC y11 (w.heap.size + 1) 0 1 (.slice b1 m1 e1) (.slice b2 m2 e2) ∧ CC y11 (w.heap.size + 1) 2 3 (.int .i64 qd) (.int .i64 qt) ∧ CF y11 y3.heap.size 0 (.slice q1 n1 g1) ∧ CF y11 y3.heap.size 1 (.slice q2 n2 g2) ∧ CF y11 y3.heap.size 2 (.int .i64 pd) ∧ CF y11 y3.heap.size 3 (.int .i64 pt) ∧ CF y11 y4.heap.size 0 (.slice q3 m1 g3) ∧ CF y11 y4.heap.size 1 (.slice p4 m2 k4) ∧ CF y11 y4.heap.size 2 (.int .i64 qd) ∧ CF y11 y4.heap.size 3 (.int .i64 qt) := by
        refine ⟨⟨?_, ?_⟩, ⟨?_, ?_⟩, ⟨?_, ?_⟩, ⟨?_, ?_⟩, ⟨?_, ?_⟩, ⟨?_, ?_⟩, ⟨?_, ?_⟩, ⟨?_, ?_⟩, ⟨?_, ?_⟩, ⟨?_, ?_⟩, ⟨?_, ?_⟩, ⟨?_, ?_⟩⟩ <;> first | (refine kc hb ?_ <;> (go_simp; first | done | rfl)) | (refine kfz hb ?_ ?_ <;> first | (go_size; done) | (go_simp; done))
    have hz := hb.size
    (try simp only [World.size_alloc, World.size_setCell, World.size_drew] at hz)
    have L : w.heap.size < y11.heap.size ∧ w.heap.size + 1 < y11.heap.size ∧ y3.heap.size < y11.heap.size ∧ y4.heap.size < y11.heap.size := by omega
    have hB' : Below w.heap.size w y11 := by
        refine kb ?_ hb
        go_grown
    clear hp_0 hp_1 hp_2 hp_3 hq_0 hq_1 hq_2 hq_3 hr_0 fr_0 hr_1 fr_1 hr_2 fr_2 hr_3 fr_3 ho_0 fo_0 ho_1 fo_1 ho_2 fo_2 ho_3 fo_3 hlp hlq hlr hlo hnp0 hnp1 hkp1 hnp2 hkp2 hnq0 hkq1 hnr0 hnr1 hkr1 hnr2 hkr2 hno0 hno1 hko1 hno2 hko2 hB hsz
    clear hb hz
    obtain ⟨⟨hp_0, hp_1⟩, ⟨hp_2, hp_3⟩, ⟨hq_0, hq_1⟩, ⟨hq_2, hq_3⟩, ⟨hr_0, fr_0⟩, ⟨hr_1, fr_1⟩, ⟨hr_2, fr_2⟩, ⟨hr_3, fr_3⟩, ⟨ho_0, fo_0⟩, ⟨ho_1, fo_1⟩, ⟨ho_2, fo_2⟩, ⟨ho_3, fo_3⟩⟩ := T
    obtain ⟨hlp, hlq, hlr, hlo⟩ := L
    obtain ⟨hnp0, hnp1, hkp1, hnp2, hkp2⟩ := ap0 hlp
    obtain ⟨hnq0, hkq1⟩ := ap1 hlq
    obtain ⟨hnr0, hnr1, hkr1, hnr2, hkr2⟩ := ap0 hlr
    obtain ⟨hno0, hno1, hko1, hno2, hko2⟩ := ap0 hlo
    have hB := hB'; clear hB'
    have hsz := hB.size
    obtain ⟨q4, g4, rfl⟩ := own_form h4
    replace D1 := Lib.hid ((D1.out.set2 _ _).below hs_y11.out)
    replace D2 := Lib.hid ((D2.out.set2 _ _).below hs_y11.out)
    replace D3 := Lib.hid ((D3.out.set2 _ _).below hs_y11.out)
    replace D4 := Lib.hid (Dk.of_own (B1 := y3.heap.size) (B2 := y4.heap.size) h4 HL.out.2.2.symm (by simpa using HB4.out.1) (by simpa using HB4.out.2))
    clear h4 hs_y11 HB4
    go_upto_region 15 with fail
    go_cut [10] (fun s10 wx => s10 = .bool SM ∧ Hid (HoldsD wx (.slice q1 n1 g1) (sortS ps) ∧ HoldsD wx (.slice q2 n2 g2) (sortS pk)) ∧ wx.cell? ⟨w.heap.size, 0, none⟩ = some (.slice a1 n1 c1) ∧ wx.cell? ⟨w.heap.size, 1, none⟩ = some (.slice a2 n2 c2) ∧ wx.cell? ⟨w.heap.size, 2, none⟩ = some (.int .i64 pd) ∧ wx.cell? ⟨w.heap.size, 3, none⟩ = some (.int .i64 pt) ∧ wx.cell? ⟨w.heap.size + 1, 0, none⟩ = some (.slice b1 m1 e1) ∧ wx.cell? ⟨w.heap.size + 1, 1, none⟩ = some (.slice b2 m2 e2) ∧ wx.cell? ⟨w.heap.size + 1, 2, none⟩ = some (.int .i64 qd) ∧ wx.cell? ⟨w.heap.size + 1, 3, none⟩ = some (.int .i64 qt) ∧ wx.cell? ⟨y3.heap.size, 0, none⟩ = some (.slice q1 n1 g1) ∧ wx.frozen? ⟨y3.heap.size, 0, none⟩ = false ∧ wx.cell? ⟨y3.heap.size, 1, none⟩ = some (.slice q2 n2 g2) ∧ wx.frozen? ⟨y3.heap.size, 1, none⟩ = false ∧ wx.cell? ⟨y3.heap.size, 2, none⟩ = some (.int .i64 pd) ∧ wx.frozen? ⟨y3.heap.size, 2, none⟩ = false ∧ wx.cell? ⟨y3.heap.size, 3, none⟩ = some (.int .i64 pt) ∧ wx.frozen? ⟨y3.heap.size, 3, none⟩ = false ∧ wx.cell? ⟨y4.heap.size, 0, none⟩ = some (.slice q3 m1 g3) ∧ wx.frozen? ⟨y4.heap.size, 0, none⟩ = false ∧ wx.cell? ⟨y4.heap.size, 1, none⟩ = some (.slice q4 m2 g4) ∧ wx.frozen? ⟨y4.heap.size, 1, none⟩ = false ∧ wx.cell? ⟨y4.heap.size, 2, none⟩ = some (.int .i64 qd) ∧ wx.frozen? ⟨y4.heap.size, 2, none⟩ = false ∧ wx.cell? ⟨y4.heap.size, 3, none⟩ = some (.int .i64 qt) ∧ wx.frozen? ⟨y4.heap.size, 3, none⟩ = false ∧ Below w.heap.size w wx)
    case first =>
      have hw := HW.out
      obtain ⟨E3, hE3⟩ : ∃ E, (pd == qd) = E := ⟨_, rfl⟩
      obtain ⟨E4, hE4⟩ : ∃ E, (pt == qt) = E := ⟨_, rfl⟩
      rw [hE3, hE4] at hw
      have HF := Lib.hid hw
      clear hw
      go_wp2_with fail
      ((with_reducible refine (HE1.out _ _ _ (D1.out.set2 _ _).h (D3.out.set2 _ _).h).mono ?_); rintro _ z1 ⟨rfl, hb⟩)
      have hs_z1 := Lib.hid hb
      have T : CC z1 w.heap.size 0 1 (.slice a1 n1 c1) (.slice a2 n2 c2) ∧ CC z1 w.heap.size 2 3 (.int .i64 pd) (.int .i64 pt) ∧ CC z1 (w.heap.size + 1) 0 1 (.slice b1 m1 e1) (.slice b2 m2 e2) ∧ CC z1 (w.heap.size + 1) 2 3 (.int .i64 qd) (.int .i64 qt) ∧ CF z1 y3.heap.size 0 (.slice q1 n1 g1) ∧ CF z1 y3.heap.size 1 (.slice q2 n2 g2) ∧ CF z1 y3.heap.size 2 (.int .i64 pd) ∧ CF z1 y3.heap.size 3 (.int .i64 pt) ∧ CF z1 y4.heap.size 0 (.slice q3 m1 g3) ∧ CF z1 y4.heap.size 1 (.slice q4 m2 g4) ∧ CF z1 y4.heap.size 2 (.int .i64 qd) ∧ CF z1 y4.heap.size 3 (.int .i64 qt) := by
          refine ⟨⟨?_, ?_⟩, ⟨?_, ?_⟩, ⟨?_, ?_⟩, ⟨?_, ?_⟩, ⟨?_, ?_⟩, ⟨?_, ?_⟩, ⟨?_, ?_⟩, ⟨?_, ?_⟩, ⟨?_, ?_⟩, ⟨?_, ?_⟩, ⟨?_, ?_⟩, ⟨?_, ?_⟩⟩ <;> first | (refine kc hb ?_ <;> (go_simp; first | done | rfl)) | (refine kfz hb ?_ ?_ <;> first | (go_size; done) | (go_simp; done))
      have hz := hb.size
      (try simp only [World.size_alloc, World.size_setCell, World.size_drew] at hz)
      have L : w.heap.size < z1.heap.size ∧ w.heap.size + 1 < z1.heap.size ∧ y3.heap.size < z1.heap.size ∧ y4.heap.size < z1.heap.size := by omega
      have hB' : Below w.heap.size w z1 := by
          refine kb ?_ hb
          go_grown
      clear hp_0 hp_1 hp_2 hp_3 hq_0 hq_1 hq_2 hq_3 hr_0 fr_0 hr_1 fr_1 hr_2 fr_2 hr_3 fr_3 ho_0 fo_0 ho_1 fo_1 ho_2 fo_2 ho_3 fo_3 hlp hlq hlr hlo hnp0 hnp1 hkp1 hnp2 hkp2 hnq0 hkq1 hnr0 hnr1 hkr1 hnr2 hkr2 hno0 hno1 hko1 hno2 hko2 hB hsz
      clear hb hz
      obtain ⟨⟨hp_0, hp_1⟩, ⟨hp_2, hp_3⟩, ⟨hq_0, hq_1⟩, ⟨hq_2, hq_3⟩, ⟨hr_0, fr_0⟩, ⟨hr_1, fr_1⟩, ⟨hr_2, fr_2⟩, ⟨hr_3, fr_3⟩, ⟨ho_0, fo_0⟩, ⟨ho_1, fo_1⟩, ⟨ho_2, fo_2⟩, ⟨ho_3, fo_3⟩⟩ := T
      obtain ⟨hlp, hlq, hlr, hlo⟩ := L
      obtain ⟨hnp0, hnp1, hkp1, hnp2, hkp2⟩ := ap0 hlp
      obtain ⟨hnq0, hkq1⟩ := ap1 hlq
      obtain ⟨hnr0, hnr1, hkr1, hnr2, hkr2⟩ := ap0 hlr
      obtain ⟨hno0, hno1, hko1, hno2, hko2⟩ := ap0 hlo
      have hB := hB'; clear hB'
      have hsz := hB.size
      cases S1
      · go_wp2_with fail
        go_meet
        exact ⟨by rw [HF.out]; rfl, Lib.hid ⟨((D1.out.set2 _ _).below hs_z1.out).h, ((D2.out.set2 _ _).below hs_z1.out).h⟩, ⟨hp_0, hp_1, hp_2, hp_3, hq_0, hq_1, hq_2, hq_3, hr_0, fr_0, hr_1, fr_1, hr_2, fr_2, hr_3, fr_3, ho_0, fo_0, ho_1, fo_1, ho_2, fo_2, ho_3, fo_3, hB⟩⟩
      · go_wp2_with fail
        ((with_reducible refine (HE2.out _ _ _ ((D2.out.set2 _ _).below hs_z1.out).h ((D4.out.set2 _ _).below hs_z1.out).h).mono ?_); rintro _ z2 ⟨rfl, hb⟩)
        have hs_z2 := Lib.hid hb
        have T : CC z2 w.heap.size 0 1 (.slice a1 n1 c1) (.slice a2 n2 c2) ∧ CC z2 w.heap.size 2 3 (.int .i64 pd) (.int .i64 pt) ∧ CC z2 (w.heap.size + 1) 0 1 (.slice b1 m1 e1) (.slice b2 m2 e2) ∧ CC z2 (w.heap.size + 1) 2 3 (.int .i64 qd) (.int .i64 qt) ∧ CF z2 y3.heap.size 0 (.slice q1 n1 g1) ∧ CF z2 y3.heap.size 1 (.slice q2 n2 g2) ∧ CF z2 y3.heap.size 2 (.int .i64 pd) ∧ CF z2 y3.heap.size 3 (.int .i64 pt) ∧ CF z2 y4.heap.size 0 (.slice q3 m1 g3) ∧ CF z2 y4.heap.size 1 (.slice q4 m2 g4) ∧ CF z2 y4.heap.size 2 (.int .i64 qd) ∧ CF z2 y4.heap.size 3 (.int .i64 qt) := by
            refine ⟨⟨?_, ?_⟩, ⟨?_, ?_⟩, ⟨?_, ?_⟩, ⟨?_, ?_⟩, ⟨?_, ?_⟩, ⟨?_, ?_⟩, ⟨?_, ?_⟩, ⟨?_, ?_⟩, ⟨?_, ?_⟩, ⟨?_, ?_⟩, ⟨?_, ?_⟩, ⟨?_, ?_⟩⟩ <;> first | (refine kc hb ?_ <;> (go_simp; first | done | rfl)) | (refine kfz hb ?_ ?_ <;> first | (go_size; done) | (go_simp; done))
        have hz := hb.size
        (try simp only [World.size_alloc, World.size_setCell, World.size_drew] at hz)
        have L : w.heap.size < z2.heap.size ∧ w.heap.size + 1 < z2.heap.size ∧ y3.heap.size < z2.heap.size ∧ y4.heap.size < z2.heap.size := by omega
        have hB' : Below w.heap.size w z2 := by
            refine kb ?_ hb
            go_grown
        clear hp_0 hp_1 hp_2 hp_3 hq_0 hq_1 hq_2 hq_3 hr_0 fr_0 hr_1 fr_1 hr_2 fr_2 hr_3 fr_3 ho_0 fo_0 ho_1 fo_1 ho_2 fo_2 ho_3 fo_3 hlp hlq hlr hlo hnp0 hnp1 hkp1 hnp2 hkp2 hnq0 hkq1 hnr0 hnr1 hkr1 hnr2 hkr2 hno0 hno1 hko1 hno2 hko2 hB hsz
        clear hb hz
        obtain ⟨⟨hp_0, hp_1⟩, ⟨hp_2, hp_3⟩, ⟨hq_0, hq_1⟩, ⟨hq_2, hq_3⟩, ⟨hr_0, fr_0⟩, ⟨hr_1, fr_1⟩, ⟨hr_2, fr_2⟩, ⟨hr_3, fr_3⟩, ⟨ho_0, fo_0⟩, ⟨ho_1, fo_1⟩, ⟨ho_2, fo_2⟩, ⟨ho_3, fo_3⟩⟩ := T
        obtain ⟨hlp, hlq, hlr, hlo⟩ := L
        obtain ⟨hnp0, hnp1, hkp1, hnp2, hkp2⟩ := ap0 hlp
        obtain ⟨hnq0, hkq1⟩ := ap1 hlq
        obtain ⟨hnr0, hnr1, hkr1, hnr2, hkr2⟩ := ap0 hlr
        obtain ⟨hno0, hno1, hko1, hno2, hko2⟩ := ap0 hlo
        have hB := hB'; clear hB'
        have hsz := hB.size
        cases S2
        · go_wp2_with fail
          go_meet
          exact ⟨by rw [HF.out]; rfl, Lib.hid ⟨(((D1.out.set2 _ _).below hs_z1.out).below hs_z2.out).h, (((D2.out.set2 _ _).below hs_z1.out).below hs_z2.out).h⟩, ⟨hp_0, hp_1, hp_2, hp_3, hq_0, hq_1, hq_2, hq_3, hr_0, fr_0, hr_1, fr_1, hr_2, fr_2, hr_3, fr_3, ho_0, fo_0, ho_1, fo_1, ho_2, fo_2, ho_3, fo_3, hB⟩⟩
        · cases E3
          · go_wp2_with fail
            go_meet
            exact ⟨by rw [HF.out]; rfl, Lib.hid ⟨(((D1.out.set2 _ _).below hs_z1.out).below hs_z2.out).h, (((D2.out.set2 _ _).below hs_z1.out).below hs_z2.out).h⟩, ⟨hp_0, hp_1, hp_2, hp_3, hq_0, hq_1, hq_2, hq_3, hr_0, fr_0, hr_1, fr_1, hr_2, fr_2, hr_3, fr_3, ho_0, fo_0, ho_1, fo_1, ho_2, fo_2, ho_3, fo_3, hB⟩⟩
          · go_wp2_with fail
            go_meet
            exact ⟨by rw [HF.out]; rfl, Lib.hid ⟨(((D1.out.set2 _ _).below hs_z1.out).below hs_z2.out).h, (((D2.out.set2 _ _).below hs_z1.out).below hs_z2.out).h⟩, ⟨hp_0, hp_1, hp_2, hp_3, hq_0, hq_1, hq_2, hq_3, hr_0, fr_0, hr_1, fr_1, hr_2, fr_2, hr_3, fr_3, ho_0, fo_0, ho_1, fo_1, ho_2, fo_2, ho_3, fo_3, hB⟩⟩
    case rest =>
      obtain ⟨wd, hwd⟩ : ∃ W, W = wc := ⟨_, rfl⟩
      rw [← hwd] at hcut ⊢
      clear hwd
      obtain ⟨rfl, HD, hcut⟩ := hcut
      clear hp_0 hp_1 hp_2 hp_3 hq_0 hq_1 hq_2 hq_3 hr_0 fr_0 hr_1 fr_1 hr_2 fr_2 hr_3 fr_3 ho_0 fo_0 ho_1 fo_1 ho_2 fo_2 ho_3 fo_3 hlp hlq hlr hlo hnp0 hnp1 hkp1 hnp2 hkp2 hnq0 hkq1 hnr0 hnr1 hkr1 hnr2 hkr2 hno0 hno1 hko1 hno2 hko2 hB hsz
      obtain ⟨hp_0, hp_1, hp_2, hp_3, hq_0, hq_1, hq_2, hq_3, hr_0, fr_0, hr_1, fr_1, hr_2, fr_2, hr_3, fr_3, ho_0, fo_0, ho_1, fo_1, ho_2, fo_2, ho_3, fo_3, hB⟩ := hcut
      have hsz := hB.size
      have hlp := klt hp_0
      have hlq := klt hq_0
      have hlr := klt hr_0
      have hlo := klt ho_0
      obtain ⟨hnp0, hnp1, hkp1, hnp2, hkp2⟩ := ap0 hlp
      obtain ⟨hnq0, hkq1⟩ := ap1 hlq
      obtain ⟨hnr0, hnr1, hkr1, hnr2, hkr2⟩ := ap0 hlr
      obtain ⟨hno0, hno1, hko1, hno2, hko2⟩ := ap0 hlo
      have HB := Lib.hid hB
      have HDD := Lib.hid HD.out
      have hSS : (SM == SM) = true := by simp
      go_wp2_with fail
      refine wp_region_planD 9 21 (fun W => W.cell? ⟨w.heap.size, 0, none⟩ = some (.slice a1 n1 c1) ∧ W.cell? ⟨w.heap.size, 1, none⟩ = some (.slice a2 n2 c2) ∧ W.cell? ⟨w.heap.size, 2, none⟩ = some (.int .i64 pd) ∧ W.cell? ⟨w.heap.size, 3, none⟩ = some (.int .i64 pt) ∧ W.cell? ⟨w.heap.size + 1, 0, none⟩ = some (.slice b1 m1 e1) ∧ W.cell? ⟨w.heap.size + 1, 1, none⟩ = some (.slice b2 m2 e2) ∧ W.cell? ⟨w.heap.size + 1, 2, none⟩ = some (.int .i64 qd) ∧ W.cell? ⟨w.heap.size + 1, 3, none⟩ = some (.int .i64 qt) ∧ W.cell? ⟨y3.heap.size, 0, none⟩ = some (.slice q1 n1 g1) ∧ W.cell? ⟨y3.heap.size, 1, none⟩ = some (.slice q2 n2 g2) ∧ W.cell? ⟨y3.heap.size, 2, none⟩ = some (.int .i64 pd) ∧ W.cell? ⟨y3.heap.size, 3, none⟩ = some (.int .i64 pt) ∧ Below wd.heap.size wd W)
        [.val (.agg #[.slice a1 n1 c1, .slice a2 n2 c2, .int .i64 pd, .int .i64 pt]), kPv ⟨sortS ps, sortS pk, pd, pt⟩, .val (.agg #[.slice q1 n1 g1, .slice q2 n2 g2, .int .i64 pd, .int .i64 pt]), .val (.bool true), .val (.bool true), .val (.agg #[.slice a1 n1 c1, .slice a2 n2 c2, .int .i64 pd, .int .i64 pt]), .val (.agg #[.slice b1 m1 e1, .slice b2 m2 e2, .int .i64 qd, .int .i64 qt]), .val (.bool SM), .val (.bool SM), .val (.bool true), .val (.bool true), .val (.bool true), .val (.agg #[.slice b1 m1 e1, .slice b2 m2 e2, .int .i64 qd, .int .i64 qt]), .val (.agg #[.slice a1 n1 c1, .slice a2 n2 c2, .int .i64 pd, .int .i64 pt]), .val (.bool SM), .val (.bool SM), .val (.bool true), .val (.bool true), .val (.bool true), .val (.bool true), .val (.bool true)]
        (by kernel_rfl) (by kernel_rfl) (by kernel_rfl) (by kernel_rfl) (by kernel_rfl) (fun W w1 h hb => ⟨kc hb h.1, kc hb h.2.1, kc hb h.2.2.1, kc hb h.2.2.2.1, kc hb h.2.2.2.2.1, kc hb h.2.2.2.2.2.1, kc hb h.2.2.2.2.2.2.1, kc hb h.2.2.2.2.2.2.2.1, kc hb h.2.2.2.2.2.2.2.2.1, kc hb h.2.2.2.2.2.2.2.2.2.1, kc hb h.2.2.2.2.2.2.2.2.2.2.1, kc hb h.2.2.2.2.2.2.2.2.2.2.2.1, h.2.2.2.2.2.2.2.2.2.2.2.2.trans (hb.mono h.2.2.2.2.2.2.2.2.2.2.2.2.size)⟩) ?_ ?_ ?_
      · intro k hk
        simp only [List.mem_cons, List.not_mem_nil, or_false] at hk
        rcases hk with rfl | rfl | rfl | rfl | rfl | rfl | rfl | rfl | rfl | rfl | rfl | rfl | rfl | rfl | rfl | rfl | rfl | rfl | rfl | rfl | rfl <;> first | exact trivial | exact kPv_fine _
      · exact ⟨by go_simp, by go_simp, by go_simp, by go_simp, by go_simp, by go_simp, by go_simp, by go_simp, by go_simp, by go_simp, by go_simp, by go_simp, Below.drew (Below.refl _ _)⟩
      (try simp only [List.append_eq, List.cons_append, List.nil_append, List.toList_toArray, List.take_succ_cons, List.take_zero, List.drop_succ_cons, List.drop_zero])
      (iterate 1 (refine PlanR.val ?_ ?_ ?_; (· rfl); (· (intro W hSw; (try dsimp only at hSw); go_simp; all_goals (first | (with_reducible rfl) | (constructor <;> (with_reducible rfl))))); intro _ _; (try simp only [Act.put, List.setIfInBounds_toArray, List.set_cons_zero, List.set_cons_succ])))
      refine PlanR.any ?_ ?_ ?_
      · rfl
      · intro W hSw _
        (try dsimp only at hSw)
        have hbW := hSw.2.2.2.2.2.2.2.2.2.2.2.2
        have hbw := HB.out.trans (hbW.mono HB.out.size)
        go_simp
        refine ⟨rfl, (HSo.out W hbw).mono ?_⟩
        rintro _ u ⟨x1, x2, rfl, hx1, hx2, _, _, hb⟩
        exact ⟨_, rfl, hb, ⟨_, _, rfl, hx1, hx2⟩⟩
      rintro ⟨z1, lo1, hi1⟩ _
      (try simp only [Act.put, List.setIfInBounds_toArray, List.set_cons_zero, List.set_cons_succ])
      (iterate 1 (refine PlanR.val ?_ ?_ ?_; (· rfl); (· (intro W hSw; (try dsimp only at hSw); go_simp; all_goals (first | (with_reducible rfl) | (constructor <;> (with_reducible rfl))))); intro _ _; (try simp only [Act.put, List.setIfInBounds_toArray, List.set_cons_zero, List.set_cons_succ])))
      refine PlanR.oval ?_ ?_ ?_
      · rfl
      · intro W hSw hKn
        (try dsimp only at hSw)
        have hbW := hSw.2.2.2.2.2.2.2.2.2.2.2.2
        have hbw := HB.out.trans (hbW.mono HB.out.size)
        have hk : HoldsP W z1 ⟨sortS ps, sortS pk, pd, pt⟩ := hKn 1 (by decide) rfl
        go_simp
        refine ⟨rfl, (HIs.out _ _ W hk (show HoldsQ W (.agg #[.slice q1 n1 g1, .slice q2 n2 g2, .int .i64 pd, .int .i64 pt]) ⟨sortS ps, sortS pk, pd, pt⟩ from ⟨_, _, rfl, HDD.out.1.below hbW, HDD.out.2.below hbW⟩)).mono ?_⟩
        rintro _ u ⟨rfl, hb⟩
        exact ⟨_, rfl, hb, rfl⟩
      intro _ _
      (try simp only [Act.put, List.setIfInBounds_toArray, List.set_cons_zero, List.set_cons_succ])
      (iterate 3 (refine PlanR.val ?_ ?_ ?_; (· rfl); (· (intro W hSw; (try dsimp only at hSw); go_simp; all_goals (first | (with_reducible rfl) | (constructor <;> (with_reducible rfl))))); intro _ _; (try simp only [Act.put, List.setIfInBounds_toArray, List.set_cons_zero, List.set_cons_succ])))
      refine PlanR.oval ?_ ?_ ?_
      · rfl
      · intro W hSw hKn
        (try dsimp only at hSw)
        have hbW := hSw.2.2.2.2.2.2.2.2.2.2.2.2
        have hbw := HB.out.trans (hbW.mono HB.out.size)
        go_simp
        refine ⟨rfl, (HM1.out W hbw).mono ?_⟩
        rintro _ u ⟨rfl, hb⟩
        exact ⟨_, rfl, hb, rfl⟩
      intro _ _
      (try simp only [Act.put, List.setIfInBounds_toArray, List.set_cons_zero, List.set_cons_succ])
      (iterate 6 (refine PlanR.val ?_ ?_ ?_; (· rfl); (· (intro W hSw; (try dsimp only at hSw); go_simp; all_goals (first | (with_reducible rfl) | (constructor <;> (with_reducible rfl))))); intro _ _; (try simp only [Act.put, List.setIfInBounds_toArray, List.set_cons_zero, List.set_cons_succ])))
      refine PlanR.oval ?_ ?_ ?_
      · rfl
      · intro W hSw hKn
        (try dsimp only at hSw)
        have hbW := hSw.2.2.2.2.2.2.2.2.2.2.2.2
        have hbw := HB.out.trans (hbW.mono HB.out.size)
        go_simp
        refine ⟨rfl, (HM2.out W hbw).mono ?_⟩
        rintro _ u ⟨rfl, hb⟩
        exact ⟨_, rfl, hb, rfl⟩
      intro _ _
      (try simp only [Act.put, List.setIfInBounds_toArray, List.set_cons_zero, List.set_cons_succ])
      (iterate 4 (refine PlanR.val ?_ ?_ ?_; (· rfl); (· (intro W hSw; (try dsimp only at hSw); go_simp; all_goals (first | (with_reducible rfl) | (constructor <;> (with_reducible rfl))))); intro _ _; (try simp only [Act.put, List.setIfInBounds_toArray, List.set_cons_zero, List.set_cons_succ])))
      refine PlanR.oval ?_ ?_ ?_
      · rfl
      · intro W hSw hKn
        (try dsimp only at hSw)
        have hbW := hSw.2.2.2.2.2.2.2.2.2.2.2.2
        have hbw := HB.out.trans (hbW.mono HB.out.size)
        go_simp
        refine ⟨rfl, (HA.out W hbw).mono ?_⟩
        rintro _ u ⟨rfl, hb⟩
        exact ⟨_, rfl, hb, rfl⟩
      intro _ _
      (try simp only [Act.put, List.setIfInBounds_toArray, List.set_cons_zero, List.set_cons_succ])
      (iterate 1 (refine PlanR.val ?_ ?_ ?_; (· rfl); (· (intro W hSw; (try dsimp only at hSw); go_simp; all_goals (first | (with_reducible rfl) | (constructor <;> (with_reducible rfl))))); intro _ _; (try simp only [Act.put, List.setIfInBounds_toArray, List.set_cons_zero, List.set_cons_succ])))
      refine PlanR.done ?_
      intro u G
      have hBu : Below wd.heap.size wd u := G.s.2.2.2.2.2.2.2.2.2.2.2.2
      clear G
      (try simp only [List.drop_succ_cons, List.drop_zero])
      refine wpList_plain rfl fun K hK => ?_
      go_simp
      refine hK _ _ ?_
      clear hK K
      go_wp2
      go_ret
      exact ⟨rfl, HB.out.trans (hBu.mono HB.out.size)⟩
theorem checks_walk (P : Pol) (hbP : Bits P) (v : Value) (Q : Pol) (hbQ : Bits Q) (u : Value) (w : World) (hv : HoldsP w v P) (hu : HoldsP w u Q) (hT : w.cell? ⟨5, 15, none⟩ = some (.int .u8 4)) : Calls Tryz.prog 3 #[v, u] w (LawEnd w) := by
  by_cases h1 : P.s.length ≤ 80 ∧ P.k.length ≤ 80
  · by_cases h2 : Q.s.length ≤ 80 ∧ Q.k.length ≤ 80
    · exact checks_ok P Q hbP hbQ v u w hv hu hT h1 h2
    · exact checks_few P Q v u w hv hu hT (.inr (by rw [Bool.eq_false_iff]; simpa using h2))
  · exact checks_few P Q v u w hv hu hT (.inl (by rw [Bool.eq_false_iff]; simpa using h1))
end Go.Proofs.YtjcmblbnbpikfaaGreatDoor
