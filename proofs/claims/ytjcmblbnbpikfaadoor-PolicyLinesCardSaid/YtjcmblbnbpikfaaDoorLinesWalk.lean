/-
  PolicyLines: the lines of a text, the last one first; and the law, walked.
-/
import Derived.Test.YtjcmblbnbpikfaaDoorPlace
import Derived.Test.YtjcmblbnbpikfaaDoorSame
import Derived.Test.YtjcmblbnbpikfaaDoorLawKit
import Derived.Test.YtjcmblbnbpikfaaDoorMayWalk
set_option linter.unusedSimpArgs false
set_option linter.unusedVariables false
namespace Go.Proofs.YtjcmblbnbpikfaaDoor
open Go.RowKit Go.PlainAid

/-- Lines ahead of those so far; the line that has begun. -/
def revT : List UInt8 → List UInt8 → List UInt8 → List UInt8 × List UInt8
  | [], line, turned => (turned, line)
  | b :: r, line, turned => if b = 10 then revT r [] (line ++ [b] ++ turned) else revT r (line ++ [b]) turned
theorem revT_line : ∀ (B cur turned rest : List UInt8), (∀ b ∈ B, b ≠ 10) → revT (B ++ 10 :: rest) cur turned = revT rest [] (cur ++ B ++ [10] ++ turned)
  | [], cur, turned, rest, _ => by rw [List.nil_append, revT, if_pos rfl, List.append_nil]
  | b :: r, cur, turned, rest, h => by
    rw [List.cons_append, revT, if_neg (h b (by simp)), revT_line r (cur ++ [b]) turned rest (fun x hx => h x (by simp [hx])), List.append_assoc cur [b] r]
    rfl
theorem revT_txt : ∀ (css : List (List Tk)) (turned : List UInt8), (∀ cs ∈ css, okL cs) → revT (txtX css) [] turned = (txtX css.reverse ++ turned, [])
  | [], turned, _ => by simp [txtX, revT]
  | cs :: r, turned, h => by
    have hc := h cs (by simp)
    have e : txtX (cs :: r) = bodyX cs ++ 10 :: txtX r := by show bodyX cs ++ [10] ++ txtX r = _; simp
    rw [e, revT_line _ _ _ _ (body_no10 hc.2.1), revT_txt r _ (fun x hx => h x (by simp [hx]))]
    have e2 : txtX (cs :: r).reverse = txtX r.reverse ++ (bodyX cs ++ [10]) := by
      unfold txtX
      rw [List.reverse_cons, List.flatMap_append]
      simp
    rw [e2]
    simp
theorem slice_one (l : List UInt8) (k : Nat) (h : k < l.length) (W : World) : (Instr.slice 9 (.string (txB l)) (some (.int .i64 (k : Int))) (some (.int .i64 ((k : Int) + 1))) none).run Tryd.prog W = .ok (.string (txB [at8 l k])) W := by
  rw [run_slice_string (h := Tryd.underlying9) (h0 := by omega) (h1 := by omega) (h2 := by rw [txB_size]; omega), show ((k : Int) + 1).toNat = k + 1 by omega, Int.toNat_natCast, txB_extract]
  congr 2
  have := take_drop_snoc l k k h (Nat.le_refl _)
  rw [this, take_drop_self]
  rfl
set_option maxRecDepth 100000 in
set_option maxHeartbeats 2000000 in
theorem lines_few (P : Pol) (hb8 : Bits P) (v : Value) (w : World) (hv : HoldsP w v P) (hT : w.cell? ⟨5, 15, none⟩ = some (.int .u8 4)) (hF : (decide (P.s.length ≤ 80) && decide (P.k.length ≤ 80)) = false) : Calls Tryd.prog 4 #[v] w (LawEnd w) := by
  have HA := Lib.hid (fun W (hb : Below w.heap.size w W) => awake7_c W (kc hb hT))
  have HFw := Lib.hid (fun W (hb : Below w.heap.size w W) => few_c P v W (hv.below hb))
  rw [hF] at HFw
  obtain ⟨v1, v2, rfl, h1, h2⟩ := hv
  obtain ⟨a1, c1, rfl⟩ := h1.form
  obtain ⟨a2, c2, rfl⟩ := h2.form
  obtain ⟨ps, pk, pd, pt⟩ := P
  dsimp only at *
  generalize ps.length = n1 at *
  generalize pk.length = n2 at *
  clear h1 h2 hF hb8
  go_enter Tryd.func4, Tryd.ntmps4
  go_wp2_with fail
  ((with_reducible refine (HFw.out _ (by go_grown)).mono ?_); rintro _ u1 ⟨rfl, hb⟩)
  have T : u1.cell? ⟨w.heap.size, 0, none⟩ = some (.slice a1 n1 c1) ∧ u1.cell? ⟨w.heap.size, 1, none⟩ = some (.slice a2 n2 c2) ∧ u1.cell? ⟨w.heap.size, 2, none⟩ = some (.int .i64 pd) ∧ u1.cell? ⟨w.heap.size, 3, none⟩ = some (.int .i64 pt) := by
      refine ⟨?_, ?_, ?_, ?_⟩ <;> refine kc hb ?_ <;> (go_simp; first | done | rfl)
  have hz := hb.size
  (try simp only [World.size_alloc, World.size_setCell, World.size_drew] at hz)
  have hlp' : w.heap.size < u1.heap.size := by omega
  have hB' : Below w.heap.size w u1 := by
      refine kb ?_ hb
      go_grown
  clear hb hz
  obtain ⟨hp_0, hp_1, hp_2, hp_3⟩ := T
  have hlp := hlp'; clear hlp'
  have hnp0 : ¬ (w.heap.size = u1.heap.size) := by omega
  have hnp1 : ¬ (w.heap.size = u1.heap.size + 1) := by omega
  have hkp1 : w.heap.size < u1.heap.size + 1 := by omega
  have hnp2 : ¬ (w.heap.size = u1.heap.size + 1 + 1) := by omega
  have hkp2 : w.heap.size < u1.heap.size + 1 + 1 := by omega
  have hB := hB'; clear hB'
  have hsz := hB.size
  go_wp2_with fail
  ((with_reducible refine (HA.out _ (by go_grown)).mono ?_); rintro _ u2 ⟨rfl, hb⟩)
  have T : u2.cell? ⟨w.heap.size, 0, none⟩ = some (.slice a1 n1 c1) ∧ u2.cell? ⟨w.heap.size, 1, none⟩ = some (.slice a2 n2 c2) ∧ u2.cell? ⟨w.heap.size, 2, none⟩ = some (.int .i64 pd) ∧ u2.cell? ⟨w.heap.size, 3, none⟩ = some (.int .i64 pt) := by
      refine ⟨?_, ?_, ?_, ?_⟩ <;> refine kc hb ?_ <;> (go_simp; first | done | rfl)
  have hz := hb.size
  (try simp only [World.size_alloc, World.size_setCell, World.size_drew] at hz)
  have hlp' : w.heap.size < u2.heap.size := by omega
  have hB' : Below w.heap.size w u2 := by
      refine kb ?_ hb
      go_grown
  clear hp_0 hp_1 hp_2 hp_3 hlp hnp0 hnp1 hkp1 hnp2 hkp2 hB hsz
  clear hb hz
  obtain ⟨hp_0, hp_1, hp_2, hp_3⟩ := T
  have hlp := hlp'; clear hlp'
  have hnp0 : ¬ (w.heap.size = u2.heap.size) := by omega
  have hnp1 : ¬ (w.heap.size = u2.heap.size + 1) := by omega
  have hkp1 : w.heap.size < u2.heap.size + 1 := by omega
  have hnp2 : ¬ (w.heap.size = u2.heap.size + 1 + 1) := by omega
  have hkp2 : w.heap.size < u2.heap.size + 1 + 1 := by omega
  have hB := hB'; clear hB'
  have hsz := hB.size
  go_wp2
  go_ret
  exact ⟨rfl, hB⟩
set_option maxRecDepth 100000 in
set_option maxHeartbeats 2000000 in
theorem lines_err (P : Pol) (hb8 : Bits P) (v : Value) (w : World) (hv : HoldsP w v P) (hT : w.cell? ⟨5, 15, none⟩ = some (.int .u8 4)) (hF : P.s.length ≤ 80 ∧ P.k.length ≤ 80) (hE : checkM P ≠ 0) : Calls Tryd.prog 4 #[v] w (LawEnd w) := by
  have HA := Lib.hid (fun W (hb : Below w.heap.size w W) => awake7_c W (kc hb hT))
  have HFw := Lib.hid (fun W (hb : Below w.heap.size w W) => few_c P v W (hv.below hb))
  rw [decide_eq_true hF.1, decide_eq_true hF.2] at HFw
  have HPr := Lib.hid (fun W (hb : Below w.heap.size w W) => print_c P ⟨by omega, by omega⟩ hb8 v W (hv.below hb) (kc hb hT))
  have hpr : printM P = ([], checkM P) := by unfold printM; rw [if_pos hE]
  rw [hpr] at HPr
  generalize checkM P = E at *
  have d1 : (E != 0) = true := by simp [bne, hE]
  have d2 : decide (E = 0) = false := decide_eq_false hE
  have HPr2 := Lib.hid (fun W (hb : Below w.heap.size w W) => (show Calls Tryd.prog 8 #[v] W (fun e w' => e = .returned (.tuple #[.string ⟨#[]⟩, .int .i64 E]) ∧ Below W.heap.size W w') from HPr.out W hb))
  obtain ⟨v1, v2, rfl, h1, h2⟩ := hv
  obtain ⟨a1, c1, rfl⟩ := h1.form
  obtain ⟨a2, c2, rfl⟩ := h2.form
  obtain ⟨ps, pk, pd, pt⟩ := P
  dsimp only at *
  generalize ps.length = n1 at *
  generalize pk.length = n2 at *
  clear h1 h2 hF hb8 HPr hpr hE
  go_enter Tryd.func4, Tryd.ntmps4
  go_wp2_with fail
  ((with_reducible refine (HFw.out _ (by go_grown)).mono ?_); rintro _ u1 ⟨rfl, hb⟩)
  have T : u1.cell? ⟨w.heap.size, 0, none⟩ = some (.slice a1 n1 c1) ∧ u1.cell? ⟨w.heap.size, 1, none⟩ = some (.slice a2 n2 c2) ∧ u1.cell? ⟨w.heap.size, 2, none⟩ = some (.int .i64 pd) ∧ u1.cell? ⟨w.heap.size, 3, none⟩ = some (.int .i64 pt) := by
      refine ⟨?_, ?_, ?_, ?_⟩ <;> refine kc hb ?_ <;> (go_simp; first | done | rfl)
  have hz := hb.size
  (try simp only [World.size_alloc, World.size_setCell, World.size_drew] at hz)
  have hlp' : w.heap.size < u1.heap.size := by omega
  have hB' : Below w.heap.size w u1 := by
      refine kb ?_ hb
      go_grown
  clear hb hz
  obtain ⟨hp_0, hp_1, hp_2, hp_3⟩ := T
  have hlp := hlp'; clear hlp'
  have hnp0 : ¬ (w.heap.size = u1.heap.size) := by omega
  have hnp1 : ¬ (w.heap.size = u1.heap.size + 1) := by omega
  have hkp1 : w.heap.size < u1.heap.size + 1 := by omega
  have hnp2 : ¬ (w.heap.size = u1.heap.size + 1 + 1) := by omega
  have hkp2 : w.heap.size < u1.heap.size + 1 + 1 := by omega
  have hB := hB'; clear hB'
  have hsz := hB.size
  go_wp2_with fail
  ((with_reducible refine (HPr2.out _ (by go_grown)).mono ?_); rintro _ u2 ⟨rfl, hb⟩)
  have T : u2.cell? ⟨w.heap.size, 0, none⟩ = some (.slice a1 n1 c1) ∧ u2.cell? ⟨w.heap.size, 1, none⟩ = some (.slice a2 n2 c2) ∧ u2.cell? ⟨w.heap.size, 2, none⟩ = some (.int .i64 pd) ∧ u2.cell? ⟨w.heap.size, 3, none⟩ = some (.int .i64 pt) := by
      refine ⟨?_, ?_, ?_, ?_⟩ <;> refine kc hb ?_ <;> (go_simp; first | done | rfl)
  have hz := hb.size
  (try simp only [World.size_alloc, World.size_setCell, World.size_drew] at hz)
  have hlp' : w.heap.size < u2.heap.size := by omega
  have hB' : Below w.heap.size w u2 := by
      refine kb ?_ hb
      go_grown
  clear hp_0 hp_1 hp_2 hp_3 hlp hnp0 hnp1 hkp1 hnp2 hkp2 hB hsz
  clear hb hz
  obtain ⟨hp_0, hp_1, hp_2, hp_3⟩ := T
  have hlp := hlp'; clear hlp'
  have hnp0 : ¬ (w.heap.size = u2.heap.size) := by omega
  have hnp1 : ¬ (w.heap.size = u2.heap.size + 1) := by omega
  have hkp1 : w.heap.size < u2.heap.size + 1 := by omega
  have hnp2 : ¬ (w.heap.size = u2.heap.size + 1 + 1) := by omega
  have hkp2 : w.heap.size < u2.heap.size + 1 + 1 := by omega
  have hB := hB'; clear hB'
  have hsz := hB.size
  go_wp2_with fail
  ((with_reducible refine (HA.out _ (by go_grown)).mono ?_); rintro _ u3 ⟨rfl, hb⟩)
  have T : u3.cell? ⟨w.heap.size, 0, none⟩ = some (.slice a1 n1 c1) ∧ u3.cell? ⟨w.heap.size, 1, none⟩ = some (.slice a2 n2 c2) ∧ u3.cell? ⟨w.heap.size, 2, none⟩ = some (.int .i64 pd) ∧ u3.cell? ⟨w.heap.size, 3, none⟩ = some (.int .i64 pt) := by
      refine ⟨?_, ?_, ?_, ?_⟩ <;> refine kc hb ?_ <;> (go_simp; first | done | rfl)
  have hz := hb.size
  (try simp only [World.size_alloc, World.size_setCell, World.size_drew] at hz)
  have hlp' : w.heap.size < u3.heap.size := by omega
  have hB' : Below w.heap.size w u3 := by
      refine kb ?_ hb
      go_grown
  clear hp_0 hp_1 hp_2 hp_3 hlp hnp0 hnp1 hkp1 hnp2 hkp2 hB hsz
  clear hb hz
  obtain ⟨hp_0, hp_1, hp_2, hp_3⟩ := T
  have hlp := hlp'; clear hlp'
  have hnp0 : ¬ (w.heap.size = u3.heap.size) := by omega
  have hnp1 : ¬ (w.heap.size = u3.heap.size + 1) := by omega
  have hkp1 : w.heap.size < u3.heap.size + 1 := by omega
  have hnp2 : ¬ (w.heap.size = u3.heap.size + 1 + 1) := by omega
  have hkp2 : w.heap.size < u3.heap.size + 1 + 1 := by omega
  have hB := hB'; clear hB'
  have hsz := hB.size
  go_wp2
  go_ret
  exact ⟨rfl, hB⟩
set_option maxRecDepth 100000 in
set_option maxHeartbeats 4000000 in
theorem lines_ok (P : Pol) (hb8 : Bits P) (v : Value) (w : World) (hv : HoldsP w v P) (hT : w.cell? ⟨5, 15, none⟩ = some (.int .u8 4)) (hF : P.s.length ≤ 80 ∧ P.k.length ≤ 80) (hE : checkM P = 0) : Calls Tryd.prog 4 #[v] w (LawEnd w) := by
  have HA := Lib.hid (fun W (hb : Below w.heap.size w W) => awake7_c W (kc hb hT))
  have HFw := Lib.hid (fun W (hb : Below w.heap.size w W) => few_c P v W (hv.below hb))
  rw [decide_eq_true hF.1, decide_eq_true hF.2] at HFw
  have HPr := Lib.hid (fun W (hb : Below w.heap.size w W) => print_c P ⟨by omega, by omega⟩ hb8 v W (hv.below hb) (kc hb hT))
  rw [print_ok hE hb8] at HPr
  have hfin := specs_fine (check_sort hE) hb8.sort
  have hlen := txt_len _ hfin
  have hsl := specs_len (check_sort hE)
  have hrev := revT_txt ((specsP (sortP P)).map Spec.core) [] (fun cs hc => by obtain ⟨s, hs, rfl⟩ := List.mem_map.1 hc; exact core_okL (hfin s hs))
  rw [List.append_nil] at hrev
  have hback := back_turned hE hb8
  generalize txtX ((specsP (sortP P)).map Spec.core) = L at *
  generalize txtX ((specsP (sortP P)).map Spec.core).reverse = LR at *
  have HS2 := Lib.hid (fun W => parse_c LR W)
  rw [hback] at HS2
  unfold ParseEnd at HS2
  dsimp only at HS2
  have hlenL : L.length ≤ 70000 := by
    have : 607 * (specsP (sortP P)).length ≤ 607 * 100 := Nat.mul_le_mul_left _ hsl
    omega
  have HMl := Lib.hid (fun v1 W (h1 : Below w.heap.size w W) h2 => same_c P (sortP P) ⟨by omega, by omega⟩ ⟨by have := sortS_len P.s; show (sortS P.s).length ≤ _; omega, by have := sortS_len P.k; show (sortS P.k).length ≤ _; omega⟩ v v1 W (hv.below h1) h2)
  rw [decide_eq_true (show sortP P = sortP (sortP P) from (sortP_idem P).symm)] at HMl
  obtain ⟨v1, v2, rfl, h1, h2⟩ := hv
  obtain ⟨a1, c1, rfl⟩ := h1.form
  obtain ⟨a2, c2, rfl⟩ := h2.form
  have HQ : ∃ Q, sortP P = Q := ⟨_, rfl⟩
  obtain ⟨Q, hQ⟩ := HQ
  rw [hQ] at HS2 HMl
  obtain ⟨ps, pk, pd, pt⟩ := P
  dsimp only at HA HFw HPr HMl hF ⊢
  generalize ps.length = n1 at *
  generalize pk.length = n2 at *
  clear h1 h2 hb8 hE hfin hlen hsl hback hQ
  obtain ⟨T, hTT⟩ : ∃ T, txB L = T := ⟨_, rfl⟩
  rw [hTT] at HPr
  have HTT := Lib.hid hTT
  have hTz : T.size = L.length := by rw [← hTT, txB_size]
  obtain ⟨n, hn⟩ : ∃ n, L.length = n := ⟨_, rfl⟩
  rw [hn] at hTz hlenL
  have HN := Lib.hid hn
  have HRV := Lib.hid hrev
  clear hTT hn hrev hF
  go_enter Tryd.func4, Tryd.ntmps4
  go_wp2_with fail
  ((with_reducible refine (HFw.out _ (by go_grown)).mono ?_); rintro _ u1 ⟨rfl, hb⟩)
  have T : u1.cell? ⟨w.heap.size, 0, none⟩ = some (.slice a1 n1 c1) ∧ u1.cell? ⟨w.heap.size, 1, none⟩ = some (.slice a2 n2 c2) ∧ u1.cell? ⟨w.heap.size, 2, none⟩ = some (.int .i64 pd) ∧ u1.cell? ⟨w.heap.size, 3, none⟩ = some (.int .i64 pt) := by
      refine ⟨?_, ?_, ?_, ?_⟩ <;> refine kc hb ?_ <;> (go_simp; first | done | rfl)
  have hz := hb.size
  (try simp only [World.size_alloc, World.size_setCell, World.size_drew] at hz)
  have hlp' : w.heap.size < u1.heap.size := by omega
  have hB' : Below w.heap.size w u1 := by
      refine kb ?_ hb
      go_grown
  clear hb hz
  obtain ⟨hp_0, hp_1, hp_2, hp_3⟩ := T
  have hlp := hlp'; clear hlp'
  have hnp0 : ¬ (w.heap.size = u1.heap.size) := by omega
  have hnp1 : ¬ (w.heap.size = u1.heap.size + 1) := by omega
  have hkp1 : w.heap.size < u1.heap.size + 1 := by omega
  have hnp2 : ¬ (w.heap.size = u1.heap.size + 1 + 1) := by omega
  have hkp2 : w.heap.size < u1.heap.size + 1 + 1 := by omega
  have hB := hB'; clear hB'
  have hsz := hB.size
  go_wp2_with fail
  ((with_reducible refine (HPr.out _ (by go_grown)).mono ?_); rintro _ u2 ⟨rfl, hb⟩)
  have T : u2.cell? ⟨w.heap.size, 0, none⟩ = some (.slice a1 n1 c1) ∧ u2.cell? ⟨w.heap.size, 1, none⟩ = some (.slice a2 n2 c2) ∧ u2.cell? ⟨w.heap.size, 2, none⟩ = some (.int .i64 pd) ∧ u2.cell? ⟨w.heap.size, 3, none⟩ = some (.int .i64 pt) := by
      refine ⟨?_, ?_, ?_, ?_⟩ <;> refine kc hb ?_ <;> (go_simp; first | done | rfl)
  have hz := hb.size
  (try simp only [World.size_alloc, World.size_setCell, World.size_drew] at hz)
  have hlp' : w.heap.size < u2.heap.size := by omega
  have hB' : Below w.heap.size w u2 := by
      refine kb ?_ hb
      go_grown
  clear hp_0 hp_1 hp_2 hp_3 hlp hnp0 hnp1 hkp1 hnp2 hkp2 hB hsz
  clear hb hz
  obtain ⟨hp_0, hp_1, hp_2, hp_3⟩ := T
  have hlp := hlp'; clear hlp'
  have hnp0 : ¬ (w.heap.size = u2.heap.size) := by omega
  have hnp1 : ¬ (w.heap.size = u2.heap.size + 1) := by omega
  have hkp1 : w.heap.size < u2.heap.size + 1 := by omega
  have hnp2 : ¬ (w.heap.size = u2.heap.size + 1 + 1) := by omega
  have hkp2 : w.heap.size < u2.heap.size + 1 + 1 := by omega
  have hB := hB'; clear hB'
  have hsz := hB.size
  have HU := Lib.hid (And.intro hp_0 (And.intro hp_1 (And.intro hp_2 (And.intro hp_3 hB))))
  go_wp2
  go_loopg [5, 6, 7] n (fun kx s5 s6 s7 wr => ∃ (k : Nat) (line turned : List UInt8), s7 = .int .i64 (k : Int) ∧ s6 = .string (txB line) ∧ s5 = .string (txB turned) ∧ k ≤ n ∧ n - k ≤ kx ∧ Hid (revT (L.drop k) line turned = (LR, [])) ∧ Hid (line.length + turned.length = k) ∧ wr = u2)
  case atStart => exact ⟨0, [], [], by go_num, rfl, rfl, by omega, by omega, Lib.hid (by rw [List.drop_zero]; exact HRV.out), Lib.hid rfl, rfl⟩
  case round =>
    obtain ⟨k, line, turned, rfl, rfl, rfl, hk, hkx, HR, HZ, rfl⟩ := hrel
    by_cases hlt : k < n
    · have hin : (0 : Int) ≤ (k : Int) ∧ (k : Int) < (n : Int) := by omega
      have hkl : k < L.length := by rw [HN.out]; exact hlt
      have hz := txB_size L
      have hsl := fun W => slice_one L k hkl W
      have hix := fun W => ix_l L k hkl (k : Int) rfl W
      rw [HTT.out] at hsl hix
      clear hz
      have hst : revT (L.drop k) line turned = if at8 L k = 10 then revT (L.drop (k + 1)) [] (line ++ [at8 L k] ++ turned) else revT (L.drop (k + 1)) (line ++ [at8 L k]) turned := by
        rw [List.drop_eq_getElem_cons hkl, ← at8_get L k hkl]
        rfl
      have HR2 := HR.out
      rw [hst] at HR2
      clear hst
      generalize at8 L k = b at *
      have hcat1 : txB line ++ txB [b] = txB (line ++ [b]) := txB_append line [b]
      have hcat2 : txB (line ++ [b]) ++ txB turned = txB (line ++ [b] ++ turned) := txB_append (line ++ [b]) turned
      have HHR := Lib.hid HR2
      clear HR2 HR
      have hq1 : line.length + 1 ≤ 80000 := by have := HZ.out; omega
      have hq2 : line.length + 1 + turned.length ≤ 80000 := by have := HZ.out; omega
      by_cases hb : b = 10
      · have HR3 := HHR.out
        rw [if_pos hb] at HR3
        have HR4 := Lib.hid HR3
        clear HR3 HHR
        have hbt : (bI b == 10) = true := by rw [hb]; decide
        clear hb
        generalize hB0 : bI b = B at *
        clear hB0
        go_wp2_with fail
        go_roundg (n - (k + 1))
        case measure => omega
        case rel => exact ⟨k + 1, [], line ++ [b] ++ turned, by go_num, rfl, by rw [List.append_assoc]; rfl, by omega, by omega, HR4, Lib.hid (by have := HZ.out; simp only [List.length_append, List.length_cons, List.length_nil]; omega), rfl⟩
      · have HR3 := HHR.out
        rw [if_neg hb] at HR3
        have HR4 := Lib.hid HR3
        clear HR3 HHR
        have hbt : (bI b == 10) = false := by rw [bI_eq b 10 10 rfl]; simpa using hb
        clear hb
        generalize hB0 : bI b = B at *
        clear hB0
        go_wp2_with fail
        go_roundg (n - (k + 1))
        case measure => omega
        case rel => exact ⟨k + 1, line ++ [b], turned, by go_num, rfl, rfl, by omega, by omega, HR4, Lib.hid (by have := HZ.out; simp only [List.length_append, List.length_cons, List.length_nil]; omega), rfl⟩
    · obtain rfl : k = n := by omega
      have hR := HR.out
      rw [List.drop_eq_nil_of_le (by rw [HN.out]; exact Nat.le_refl _)] at hR
      obtain ⟨rfl, rfl⟩ : turned = LR ∧ line = [] := by cases hR; exact ⟨rfl, rfl⟩
      clear hR HR
      obtain ⟨hp_0, hp_1, hp_2, hp_3, hB⟩ := HU.out
      obtain ⟨qs, qk, qd, qt⟩ := Q
      dsimp only at HS2
      go_wp2_with fail
      ((with_reducible refine (HS2.out _).mono ?_); rintro _ y2 ⟨v3, v4, rfl, h3, h4, _, _, hb⟩)
      have hs_y2 := Lib.hid hb
      have T : y2.cell? ⟨w.heap.size, 0, none⟩ = some (.slice a1 n1 c1) ∧ y2.cell? ⟨w.heap.size, 1, none⟩ = some (.slice a2 n2 c2) ∧ y2.cell? ⟨w.heap.size, 2, none⟩ = some (.int .i64 pd) ∧ y2.cell? ⟨w.heap.size, 3, none⟩ = some (.int .i64 pt) := by
          refine ⟨?_, ?_, ?_, ?_⟩ <;> refine kc hb ?_ <;> (go_simp; first | done | rfl)
      have hz := hb.size
      (try simp only [World.size_alloc, World.size_setCell, World.size_drew] at hz)
      have hlp' : w.heap.size < y2.heap.size := by omega
      have hB' : Below w.heap.size w y2 := by
          refine kb ?_ hb
          go_grown
      clear hp_0 hp_1 hp_2 hp_3 hlp hnp0 hnp1 hkp1 hnp2 hkp2 hB hsz
      clear hb hz
      obtain ⟨hp_0, hp_1, hp_2, hp_3⟩ := T
      have hlp := hlp'; clear hlp'
      have hnp0 : ¬ (w.heap.size = y2.heap.size) := by omega
      have hnp1 : ¬ (w.heap.size = y2.heap.size + 1) := by omega
      have hkp1 : w.heap.size < y2.heap.size + 1 := by omega
      have hnp2 : ¬ (w.heap.size = y2.heap.size + 1 + 1) := by omega
      have hkp2 : w.heap.size < y2.heap.size + 1 + 1 := by omega
      have hB := hB'; clear hB'
      have hsz := hB.size
      obtain ⟨p3, c3, rfl⟩ := h3.form
      obtain ⟨p4, c4, rfl⟩ := h4.form
      have HP2 := Lib.hid (fun W (hb : Below y2.heap.size y2 W) => (show HoldsP W (.agg #[.slice p3 qs.length c3, .slice p4 qk.length c4, .int .i64 qd, .int .i64 qt]) ⟨qs, qk, qd, qt⟩ from holdsP_of (h3.below hb) (h4.below hb)))
      clear h3 h4
      generalize qs.length = m1 at *
      generalize qk.length = m2 at *
      have HB0 := Lib.hid hB
      have HA2 := Lib.hid (fun W (hb : Below y2.heap.size y2 W) => HA.out W (HB0.out.trans (hb.mono HB0.out.size)))
      have hyy : Below y2.heap.size y2 y2 := Below.refl _ _
      go_wp2_with fail
      ((with_reducible refine (HMl.out _ _ (by go_grown) (HP2.out _ (by go_grown))).mono ?_); rintro _ y3 ⟨rfl, hb⟩)
      have T : y3.cell? ⟨w.heap.size, 0, none⟩ = some (.slice a1 n1 c1) ∧ y3.cell? ⟨w.heap.size, 1, none⟩ = some (.slice a2 n2 c2) ∧ y3.cell? ⟨w.heap.size, 2, none⟩ = some (.int .i64 pd) ∧ y3.cell? ⟨w.heap.size, 3, none⟩ = some (.int .i64 pt) ∧ y3.cell? ⟨y2.heap.size, 0, none⟩ = some (.slice p3 m1 c3) ∧ y3.cell? ⟨y2.heap.size, 1, none⟩ = some (.slice p4 m2 c4) ∧ y3.cell? ⟨y2.heap.size, 2, none⟩ = some (.int .i64 qd) ∧ y3.cell? ⟨y2.heap.size, 3, none⟩ = some (.int .i64 qt) := by
          refine ⟨?_, ?_, ?_, ?_, ?_, ?_, ?_, ?_⟩ <;> refine kc hb ?_ <;> (go_simp; first | done | rfl)
      have hz := hb.size
      (try simp only [World.size_alloc, World.size_setCell, World.size_drew] at hz)
      have hlp' : w.heap.size < y3.heap.size := by omega
      have hlc' : y2.heap.size < y3.heap.size := by omega
      have hB' : Below y2.heap.size y2 y3 := by
          refine kb ?_ hb
          go_grown
      clear hp_0 hp_1 hp_2 hp_3 hlp hnp0 hnp1 hkp1 hnp2 hkp2 hB hsz
      clear hb hz
      obtain ⟨hp_0, hp_1, hp_2, hp_3, hc_0, hc_1, hc_2, hc_3⟩ := T
      have hlp := hlp'; clear hlp'
      have hlc := hlc'; clear hlc'
      have hnp0 : ¬ (w.heap.size = y3.heap.size) := by omega
      have hnp1 : ¬ (w.heap.size = y3.heap.size + 1) := by omega
      have hkp1 : w.heap.size < y3.heap.size + 1 := by omega
      have hnp2 : ¬ (w.heap.size = y3.heap.size + 1 + 1) := by omega
      have hkp2 : w.heap.size < y3.heap.size + 1 + 1 := by omega
      have hnc0 : ¬ (y2.heap.size = y3.heap.size) := by omega
      have hnc1 : ¬ (y2.heap.size = y3.heap.size + 1) := by omega
      have hkc1 : y2.heap.size < y3.heap.size + 1 := by omega
      have hnc2 : ¬ (y2.heap.size = y3.heap.size + 1 + 1) := by omega
      have hkc2 : y2.heap.size < y3.heap.size + 1 + 1 := by omega
      have hB := hB'; clear hB'
      have hsz := hB.size
      go_wp2_with fail
      ((with_reducible refine (HA2.out _ (by go_grown)).mono ?_); rintro _ y4 ⟨rfl, hb⟩)
      have T : y4.cell? ⟨w.heap.size, 0, none⟩ = some (.slice a1 n1 c1) ∧ y4.cell? ⟨w.heap.size, 1, none⟩ = some (.slice a2 n2 c2) ∧ y4.cell? ⟨w.heap.size, 2, none⟩ = some (.int .i64 pd) ∧ y4.cell? ⟨w.heap.size, 3, none⟩ = some (.int .i64 pt) ∧ y4.cell? ⟨y2.heap.size, 0, none⟩ = some (.slice p3 m1 c3) ∧ y4.cell? ⟨y2.heap.size, 1, none⟩ = some (.slice p4 m2 c4) ∧ y4.cell? ⟨y2.heap.size, 2, none⟩ = some (.int .i64 qd) ∧ y4.cell? ⟨y2.heap.size, 3, none⟩ = some (.int .i64 qt) := by
          refine ⟨?_, ?_, ?_, ?_, ?_, ?_, ?_, ?_⟩ <;> refine kc hb ?_ <;> (go_simp; first | done | rfl)
      have hz := hb.size
      (try simp only [World.size_alloc, World.size_setCell, World.size_drew] at hz)
      have hlp' : w.heap.size < y4.heap.size := by omega
      have hlc' : y2.heap.size < y4.heap.size := by omega
      have hB' : Below y2.heap.size y2 y4 := by
          refine kb ?_ hb
          go_grown
      clear hp_0 hp_1 hp_2 hp_3 hc_0 hc_1 hc_2 hc_3 hlp hlc hnp0 hnp1 hkp1 hnp2 hkp2 hnc0 hnc1 hkc1 hnc2 hkc2 hB hsz
      clear hb hz
      obtain ⟨hp_0, hp_1, hp_2, hp_3, hc_0, hc_1, hc_2, hc_3⟩ := T
      have hlp := hlp'; clear hlp'
      have hlc := hlc'; clear hlc'
      have hnp0 : ¬ (w.heap.size = y4.heap.size) := by omega
      have hnp1 : ¬ (w.heap.size = y4.heap.size + 1) := by omega
      have hkp1 : w.heap.size < y4.heap.size + 1 := by omega
      have hnp2 : ¬ (w.heap.size = y4.heap.size + 1 + 1) := by omega
      have hkp2 : w.heap.size < y4.heap.size + 1 + 1 := by omega
      have hnc0 : ¬ (y2.heap.size = y4.heap.size) := by omega
      have hnc1 : ¬ (y2.heap.size = y4.heap.size + 1) := by omega
      have hkc1 : y2.heap.size < y4.heap.size + 1 := by omega
      have hnc2 : ¬ (y2.heap.size = y4.heap.size + 1 + 1) := by omega
      have hkc2 : y2.heap.size < y4.heap.size + 1 + 1 := by omega
      have hB := hB'; clear hB'
      have hsz := hB.size
      go_wp2
      go_ret
      exact ⟨rfl, HB0.out.trans (hB.mono HB0.out.size)⟩
theorem lines_walk (P : Pol) (hb8 : Bits P) (v : Value) (w : World) (hv : HoldsP w v P) (hT : w.cell? ⟨5, 15, none⟩ = some (.int .u8 4)) : Calls Tryd.prog 4 #[v] w (LawEnd w) := by
  by_cases h1 : P.s.length ≤ 80
  · by_cases h2 : P.k.length ≤ 80
    · by_cases hE : checkM P = 0
      · exact lines_ok P hb8 v w hv hT ⟨h1, h2⟩ hE
      · exact lines_err P hb8 v w hv hT ⟨h1, h2⟩ hE
    · exact lines_few P hb8 v w hv hT (by rw [decide_eq_true h1, decide_eq_false h2]; rfl)
  · exact lines_few P hb8 v w hv hT (by rw [decide_eq_false h1]; rfl)
end Go.Proofs.YtjcmblbnbpikfaaDoor
