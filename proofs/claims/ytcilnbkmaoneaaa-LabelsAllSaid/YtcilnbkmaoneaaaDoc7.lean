/-
  Layer 7's document: what is wrong with a policy.
-/
import Derived.Test.YtcilnbkmaoneaaaDoc2
import Derived.Test.YtcilnbkmaoneaaaAppendH
set_option linter.unusedSimpArgs false
set_option linter.unusedVariables false
namespace Go.Proofs.Ytcilnbkmaoneaaa
open Go.RowKit Go.PlainAid

/-- What is wrong with spans of a kind, one by one, as the document has it. -/
def chkD (sink : Bool) (own other : List Sp) : List Sp → Int
  | [] => 0
  | x :: r => if liesB x sink = false ∨ x.b < 1 ∨ 255 < x.b then 10 else if addD x own other ≠ 0 then addD x own other else chkD sink (own ++ [x]) other r
def checkD (p : Pol) : Int :=
  if chkD false [] [] p.s ≠ 0 then chkD false [] [] p.s
  else if chkD true [] p.s p.k ≠ 0 then chkD true [] p.s p.k
  else if mayD p.d && mayT p.t then 0 else 10
/-- The same from a place on. -/
def restC (s k : List Sp) (i : Nat) : Int :=
  if i < s.length then (if chkD false (s.take i) [] (s.drop i) ≠ 0 then chkD false (s.take i) [] (s.drop i) else chkD true [] s k)
  else chkD true (k.take (i - s.length)) s (k.drop (i - s.length))
theorem restC_zero (s k : List Sp) : restC s k 0 = if chkD false [] [] s ≠ 0 then chkD false [] [] s else chkD true [] s k := by
  unfold restC
  cases s with
  | nil => rfl
  | cons x r => rw [if_pos (by simp)]; rfl
theorem restC_s {s k : List Sp} {i : Nat} (h : i < s.length) : restC s k i = if liesB s[i] false = false ∨ s[i].b < 1 ∨ 255 < s[i].b then 10 else if addD s[i] (s.take i) [] ≠ 0 then addD s[i] (s.take i) [] else restC s k (i + 1) := by
  have hd := List.drop_eq_getElem_cons h
  have ht : s.take (i + 1) = s.take i ++ [s[i]] := List.take_succ_eq_append_getElem h
  have e : restC s k (i + 1) = if chkD false (s.take i ++ [s[i]]) [] (s.drop (i + 1)) ≠ 0 then chkD false (s.take i ++ [s[i]]) [] (s.drop (i + 1)) else chkD true [] s k := by
    unfold restC
    by_cases h1 : i + 1 < s.length
    · rw [if_pos h1, ht]
    · rw [if_neg h1, show i + 1 - s.length = 0 from by omega, show s.drop (i + 1) = [] from List.drop_eq_nil_of_le (by omega)]
      rfl
  rw [e]
  unfold restC
  rw [if_pos h, hd, chkD]
  split
  · rfl
  · split
    · rfl
    · rfl
theorem restC_k {s k : List Sp} {i : Nat} (h0 : s.length ≤ i) (h : i - s.length < k.length) : restC s k i = if liesB k[i - s.length] true = false ∨ k[i - s.length].b < 1 ∨ 255 < k[i - s.length].b then 10 else if addD k[i - s.length] (k.take (i - s.length)) s ≠ 0 then addD k[i - s.length] (k.take (i - s.length)) s else restC s k (i + 1) := by
  have hd := List.drop_eq_getElem_cons h
  have ht : k.take (i - s.length + 1) = k.take (i - s.length) ++ [k[i - s.length]] := List.take_succ_eq_append_getElem h
  have e : restC s k (i + 1) = chkD true (k.take (i - s.length) ++ [k[i - s.length]]) s (k.drop (i - s.length + 1)) := by
    unfold restC
    rw [if_neg (by omega), show i + 1 - s.length = i - s.length + 1 from by omega, ht]
  rw [e]
  unfold restC
  rw [if_neg (by omega), hd, chkD]
theorem restC_end {s k : List Sp} {i : Nat} (h : s.length + k.length ≤ i) : restC s k i = 0 := by
  unfold restC
  rw [if_neg (by omega), List.drop_eq_nil_of_le (by omega)]
  rfl
theorem checkD_rest (p : Pol) : checkD p = if restC p.s p.k 0 ≠ 0 then restC p.s p.k 0 else if mayD p.d && mayT p.t then 0 else 10 := by
  unfold checkD
  rw [restC_zero]
  by_cases h : chkD false [] [] p.s ≠ 0
  · rw [if_pos h, if_pos h, if_pos h]
  · rw [if_neg h, if_neg h]
set_option maxRecDepth 100000 in
set_option maxHeartbeats 2000000 in
theorem checkr_c (p : Pol) (hl : p.s.length ≤ 1000 ∧ p.k.length ≤ 1000) (v1 v2 : Value) (w : World) (h1 : HoldsD w v1 p.s) (h2 : HoldsD w v2 p.k) :
    Calls Try.prog 9 #[.agg #[v1, v2, .int .i64 p.d, .int .i64 p.t]] w fun e w' => e = .returned (.int .i64 (checkD p)) ∧ Below w.heap.size w w' := by
  rw [checkD_rest]
  obtain ⟨ps, pk, pd, pt⟩ := p
  dsimp only at h1 h2 hl ⊢
  obtain ⟨R, hR⟩ : ∃ R, restC ps pk 0 = R := ⟨_, rfl⟩
  rw [hR]
  obtain ⟨E, hE⟩ : ∃ E, (if R ≠ 0 then R else if mayD pd && mayT pt then 0 else 10) = E := ⟨_, rfl⟩
  rw [hE]
  have HE := Lib.hid hE
  clear hE
  obtain ⟨a1, c1, rfl⟩ := h1.form
  obtain ⟨a2, c2, rfl⟩ := h2.form
  obtain ⟨n1, hn1⟩ : ∃ n, ps.length = n := ⟨_, rfl⟩
  obtain ⟨n2, hn2⟩ : ∃ n, pk.length = n := ⟨_, rfl⟩
  rw [hn1] at h1 hl ⊢
  rw [hn2] at h2 hl ⊢
  obtain ⟨l1, l2⟩ := hl
  have H1 := Lib.hid h1
  have H2 := Lib.hid h2
  have HR := Lib.hid hR
  have HN := Lib.hid (And.intro hn1 hn2)
  clear h1 h2 hR hn1 hn2
  go_enter Try.func9, Try.ntmps9
  go_wp2
  go_loopg [3] (n1 + n2) (fun kx s3 wr => ∃ k : Nat, s3 = .int .i64 k ∧ k ≤ n1 + n2 ∧ n1 + n2 - k ≤ kx ∧ Hid (restC ps pk k = R) ∧ wr.cell? ⟨w.heap.size, 0, none⟩ = some (.slice a1 n1 c1) ∧ wr.cell? ⟨w.heap.size, 1, none⟩ = some (.slice a2 n2 c2) ∧ wr.cell? ⟨w.heap.size, 2, none⟩ = some (.int .i64 pd) ∧ wr.cell? ⟨w.heap.size, 3, none⟩ = some (.int .i64 pt) ∧ Below w.heap.size w wr)
  case atStart => exact ⟨0, by go_num, by omega, by omega, Lib.hid HR.out, by go_simp, by go_simp, by go_simp, by go_simp, by go_grown⟩
  case round =>
    obtain ⟨k, rfl, hk, hkx, HK, hp_0, hp_1, hp_2, hp_3, hB⟩ := hrel
    by_cases hk1 : k < n1
    · have hkl : k < ps.length := by have := HN.out; omega
      obtain ⟨g1, o1, d1, e1, hcap, c3⟩ := H1.out.some (by have := HN.out; omega)
      obtain ⟨rfl, n1', rfl⟩ := Value.slice.inj e1
      clear e1 n1'
      have hcap' : n1 ≤ c1 := by have := HN.out; omega
      obtain ⟨x0, x1, x2⟩ := get3d c3 (List.getElem?_eq_getElem hkl)
      have hst := restC_s (k := pk) hkl
      rw [HK.out] at hst
      have HO := Lib.hid (fun W (hb : Below w.heap.size w W) => cells_take (m := k) (fun j x hx i u hu => kc hb (c3 j x hx i u hu)) (by omega) hcap)
      clear c3 HK
      generalize ps[k] = x at *
      obtain ⟨xf, xt, xb⟩ := x
      dsimp only at x0 x1 x2 hst
      have hx_0 := kc hB x0
      have hx_1 := kc hB x1
      have hx_2 := kc hB x2
      obtain ⟨L, hL⟩ : ∃ L, liesB ⟨xf, xt, xb⟩ (!true) = L := ⟨_, rfl⟩
      rw [show liesB ⟨xf, xt, xb⟩ false = L from hL] at hst
      have HL := Lib.hid (fun W => hL ▸ liesr_c xf xt xb true W)
      obtain ⟨A, hA⟩ : ∃ A, addD ⟨xf, xt, xb⟩ (ps.take k) [] = A := ⟨_, rfl⟩
      rw [hA] at hst
      have HA := Lib.hid (fun W hb => hA ▸ addr_c xf xt xb (ps.take k) [] (by rw [List.length_take]; have := HN.out; omega) (by simp) _ _ W (HO.out W hb) (HoldsE.nil W))
      have HST := Lib.hid hst
      have hlp := klt hp_0
      have hlx := klt hx_0
      have hq_0 := hp_0
      have hq_1 := hp_1
      have hq_2 := hp_2
      have hq_3 := hp_3
      clear hst x0 x1 x2 hcap hkl hL hA hp_0 hp_1 hp_2 hp_3
      go_wp2_with fail
      ((with_reducible refine (HL.out _).mono ?_); rintro _ u1 ⟨rfl, hb⟩)
      have T : CC u1 w.heap.size 0 1 (.slice (some ⟨g1, o1, none⟩) n1 c1) (.slice a2 n2 c2) ∧ CC u1 w.heap.size 2 3 (.int .i64 pd) (.int .i64 pt) ∧ CC u1 wr.heap.size 0 1 (.int .i64 xf) (.int .i64 xt) ∧ u1.cell? ⟨wr.heap.size, 2, none⟩ = some (.int .i64 xb) := by
          refine ⟨⟨?_, ?_⟩, ⟨?_, ?_⟩, ⟨?_, ?_⟩, ?_⟩ <;> refine kc hb ?_ <;> (go_simp; first | done | rfl)
      have hz := hb.size
      (try simp only [World.size_alloc, World.size_setCell, World.size_drew] at hz)
      have L : w.heap.size < u1.heap.size ∧ wr.heap.size < u1.heap.size := by omega
      have hB' : Below w.heap.size w u1 := by
          refine kb ?_ hb
          go_grown
      clear hb hz
      obtain ⟨⟨hq_0, hq_1⟩, ⟨hq_2, hq_3⟩, ⟨hy_0, hy_1⟩, hy_2⟩ := T
      obtain ⟨hlq, hly⟩ := L
      obtain ⟨hnq0, hnq1, hkq1, hnq2, hkq2⟩ := ap0 hlq
      obtain ⟨hny0, hny1, hky1, hny2, hky2⟩ := ap0 hly
      have hB := hB'; clear hB'
      have hsz := hB.size
      cases L
      · have HF := Lib.hid (show 10 = E from by rw [← HE.out, show R = 10 from HST.out.trans (if_pos (Or.inl rfl))]; exact (if_pos (by decide)).symm)
        go_wp2
        go_ret
        exact ⟨ret_i64 HF.out, hB⟩
      · by_cases b1 : xb < 1
        · have HF := Lib.hid (show 10 = E from by rw [← HE.out, show R = 10 from HST.out.trans (if_pos (Or.inr (Or.inl b1)))]; exact (if_pos (by decide)).symm)
          go_wp2
          go_ret
          exact ⟨ret_i64 HF.out, hB⟩
        · by_cases b2 : 255 < xb
          · have HF := Lib.hid (show 10 = E from by rw [← HE.out, show R = 10 from HST.out.trans (if_pos (Or.inr (Or.inr b2)))]; exact (if_pos (by decide)).symm)
            go_wp2
            go_ret
            exact ⟨ret_i64 HF.out, hB⟩
          · have HS2 := Lib.hid (show R = if A ≠ 0 then A else restC ps pk (k + 1) from HST.out.trans (if_neg (by rintro (h | h | h); cases h; exact b1 h; exact b2 h)))
            go_wp2_with fail
            ((with_reducible refine (HA.out _ hB).mono ?_); rintro _ u2 ⟨rfl, hb⟩)
            have T : CC u2 w.heap.size 0 1 (.slice (some ⟨g1, o1, none⟩) n1 c1) (.slice a2 n2 c2) ∧ CC u2 w.heap.size 2 3 (.int .i64 pd) (.int .i64 pt) ∧ CC u2 wr.heap.size 0 1 (.int .i64 xf) (.int .i64 xt) ∧ u2.cell? ⟨wr.heap.size, 2, none⟩ = some (.int .i64 xb) := by
                refine ⟨⟨?_, ?_⟩, ⟨?_, ?_⟩, ⟨?_, ?_⟩, ?_⟩ <;> refine kc hb ?_ <;> (go_simp; first | done | rfl)
            have hz := hb.size
            (try simp only [World.size_alloc, World.size_setCell, World.size_drew] at hz)
            have L : w.heap.size < u2.heap.size ∧ wr.heap.size < u2.heap.size := by omega
            have hB' : Below w.heap.size w u2 := by
                refine kb ?_ hb
                go_grown
            clear hq_0 hq_1 hq_2 hq_3 hy_0 hy_1 hy_2 hlq hly hnq0 hnq1 hkq1 hnq2 hkq2 hny0 hny1 hky1 hny2 hky2 hB hsz
            clear hb hz
            obtain ⟨⟨hq_0, hq_1⟩, ⟨hq_2, hq_3⟩, ⟨hy_0, hy_1⟩, hy_2⟩ := T
            obtain ⟨hlq, hly⟩ := L
            obtain ⟨hnq0, hnq1, hkq1, hnq2, hkq2⟩ := ap0 hlq
            obtain ⟨hny0, hny1, hky1, hny2, hky2⟩ := ap0 hly
            have hB := hB'; clear hB'
            have hsz := hB.size
            by_cases hz0 : A = 0
            · have HF := Lib.hid (show restC ps pk (k + 1) = R from (HS2.out.trans (if_neg (by rw [hz0]; simp))).symm)
              go_wp2
              go_roundg (n1 + n2 - (k + 1))
              case measure => omega
              case rel => exact ⟨k + 1, by go_num, by omega, by omega, HF, hq_0, hq_1, hq_2, hq_3, hB⟩
            · have HF := Lib.hid (show A = E from by rw [← HE.out, show R = A from HS2.out.trans (if_pos hz0)]; exact (if_pos hz0).symm)
              have hz0' : (A == 0) = false := by simpa using hz0
              go_wp2
              go_ret
              exact ⟨ret_i64 HF.out, hB⟩
    · by_cases hk2 : k < n1 + n2
      · obtain ⟨m, hm⟩ : ∃ m, m = k - n1 := ⟨_, rfl⟩
        have hkm1 : n1 + m ≤ k := by omega
        have hkm2 : k ≤ n1 + m := by omega
        have hsubn : k - n1 = m := by omega
        have hkl : m < pk.length := by have := HN.out; omega
        have hsub : (k : Int) - (n1 : Int) = (m : Int) := by omega
        clear hm
        obtain ⟨g1, o1, d1, e1, hcap, c3⟩ := H2.out.some (by have := HN.out; omega)
        obtain ⟨rfl, n1', rfl⟩ := Value.slice.inj e1
        clear e1 n1'
        have hcap' : n2 ≤ c2 := by have := HN.out; omega
        obtain ⟨x0, x1, x2⟩ := get3d c3 (List.getElem?_eq_getElem hkl)
        have hst := restC_k (s := ps) (k := pk) (i := k) (by have := HN.out; omega) (by have := HN.out; omega)
        simp only [show k - ps.length = m from by have := HN.out; omega] at hst
        rw [HK.out] at hst
        have HO := Lib.hid (fun W (hb : Below w.heap.size w W) => cells_take (m := m) (fun j x hx i u hu => kc hb (c3 j x hx i u hu)) (by omega) hcap)
        clear c3 HK
        generalize pk[m] = x at *
        obtain ⟨xf, xt, xb⟩ := x
        dsimp only at x0 x1 x2 hst
        have hx_0 := kc hB x0
        have hx_1 := kc hB x1
        have hx_2 := kc hB x2
        obtain ⟨L, hL⟩ : ∃ L, liesB ⟨xf, xt, xb⟩ (!false) = L := ⟨_, rfl⟩
        rw [show liesB ⟨xf, xt, xb⟩ true = L from hL] at hst
        have HL := Lib.hid (fun W => hL ▸ liesr_c xf xt xb false W)
        obtain ⟨A, hA⟩ : ∃ A, addD ⟨xf, xt, xb⟩ (pk.take m) ps = A := ⟨_, rfl⟩
        rw [hA] at hst
        have HA := Lib.hid (fun W hb => hA ▸ addr_c xf xt xb (pk.take m) ps (by rw [List.length_take]; have := HN.out; omega) (by have := HN.out; omega) _ _ W (HO.out W hb) (H1.out.below hb))
        have HST := Lib.hid hst
        have hlp := klt hp_0
        have hlx := klt hx_0
        have hq_0 := hp_0
        have hq_1 := hp_1
        have hq_2 := hp_2
        have hq_3 := hp_3
        clear hst x0 x1 x2 hcap hkl hL hA hp_0 hp_1 hp_2 hp_3
        go_wp2_with fail
        ((with_reducible refine (HL.out _).mono ?_); rintro _ u1 ⟨rfl, hb⟩)
        have T : CC u1 w.heap.size 0 1 (.slice a1 n1 c1) (.slice (some ⟨g1, o1, none⟩) n2 c2) ∧ CC u1 w.heap.size 2 3 (.int .i64 pd) (.int .i64 pt) ∧ CC u1 wr.heap.size 0 1 (.int .i64 xf) (.int .i64 xt) ∧ u1.cell? ⟨wr.heap.size, 2, none⟩ = some (.int .i64 xb) := by
            refine ⟨⟨?_, ?_⟩, ⟨?_, ?_⟩, ⟨?_, ?_⟩, ?_⟩ <;> refine kc hb ?_ <;> (go_simp; first | done | rfl)
        have hz := hb.size
        (try simp only [World.size_alloc, World.size_setCell, World.size_drew] at hz)
        have L : w.heap.size < u1.heap.size ∧ wr.heap.size < u1.heap.size := by omega
        have hB' : Below w.heap.size w u1 := by
            refine kb ?_ hb
            go_grown
        clear hb hz
        obtain ⟨⟨hq_0, hq_1⟩, ⟨hq_2, hq_3⟩, ⟨hy_0, hy_1⟩, hy_2⟩ := T
        obtain ⟨hlq, hly⟩ := L
        obtain ⟨hnq0, hnq1, hkq1, hnq2, hkq2⟩ := ap0 hlq
        obtain ⟨hny0, hny1, hky1, hny2, hky2⟩ := ap0 hly
        have hB := hB'; clear hB'
        have hsz := hB.size
        cases L
        · have HF := Lib.hid (show 10 = E from by rw [← HE.out, show R = 10 from HST.out.trans (if_pos (Or.inl rfl))]; exact (if_pos (by decide)).symm)
          go_wp2
          go_ret
          exact ⟨ret_i64 HF.out, hB⟩
        · by_cases b1 : xb < 1
          · have HF := Lib.hid (show 10 = E from by rw [← HE.out, show R = 10 from HST.out.trans (if_pos (Or.inr (Or.inl b1)))]; exact (if_pos (by decide)).symm)
            go_wp2
            go_ret
            exact ⟨ret_i64 HF.out, hB⟩
          · by_cases b2 : 255 < xb
            · have HF := Lib.hid (show 10 = E from by rw [← HE.out, show R = 10 from HST.out.trans (if_pos (Or.inr (Or.inr b2)))]; exact (if_pos (by decide)).symm)
              go_wp2
              go_ret
              exact ⟨ret_i64 HF.out, hB⟩
            · have HS2 := Lib.hid (show R = if A ≠ 0 then A else restC ps pk (k + 1) from HST.out.trans (if_neg (by rintro (h | h | h); cases h; exact b1 h; exact b2 h)))
              go_wp2_with fail
              ((with_reducible refine (HA.out _ hB).mono ?_); rintro _ u2 ⟨rfl, hb⟩)
              have T : CC u2 w.heap.size 0 1 (.slice a1 n1 c1) (.slice (some ⟨g1, o1, none⟩) n2 c2) ∧ CC u2 w.heap.size 2 3 (.int .i64 pd) (.int .i64 pt) ∧ CC u2 wr.heap.size 0 1 (.int .i64 xf) (.int .i64 xt) ∧ u2.cell? ⟨wr.heap.size, 2, none⟩ = some (.int .i64 xb) := by
                  refine ⟨⟨?_, ?_⟩, ⟨?_, ?_⟩, ⟨?_, ?_⟩, ?_⟩ <;> refine kc hb ?_ <;> (go_simp; first | done | rfl)
              have hz := hb.size
              (try simp only [World.size_alloc, World.size_setCell, World.size_drew] at hz)
              have L : w.heap.size < u2.heap.size ∧ wr.heap.size < u2.heap.size := by omega
              have hB' : Below w.heap.size w u2 := by
                  refine kb ?_ hb
                  go_grown
              clear hq_0 hq_1 hq_2 hq_3 hy_0 hy_1 hy_2 hlq hly hnq0 hnq1 hkq1 hnq2 hkq2 hny0 hny1 hky1 hny2 hky2 hB hsz
              clear hb hz
              obtain ⟨⟨hq_0, hq_1⟩, ⟨hq_2, hq_3⟩, ⟨hy_0, hy_1⟩, hy_2⟩ := T
              obtain ⟨hlq, hly⟩ := L
              obtain ⟨hnq0, hnq1, hkq1, hnq2, hkq2⟩ := ap0 hlq
              obtain ⟨hny0, hny1, hky1, hny2, hky2⟩ := ap0 hly
              have hB := hB'; clear hB'
              have hsz := hB.size
              by_cases hz0 : A = 0
              · have HF := Lib.hid (show restC ps pk (k + 1) = R from (HS2.out.trans (if_neg (by rw [hz0]; simp))).symm)
                go_wp2
                go_roundg (n1 + n2 - (k + 1))
                case measure => omega
                case rel => exact ⟨k + 1, by go_num, by omega, by omega, HF, hq_0, hq_1, hq_2, hq_3, hB⟩
              · have HF := Lib.hid (show A = E from by rw [← HE.out, show R = A from HS2.out.trans (if_pos hz0)]; exact (if_pos hz0).symm)
                have hz0' : (A == 0) = false := by simpa using hz0
                go_wp2
                go_ret
                exact ⟨ret_i64 HF.out, hB⟩
      · have HF := Lib.hid (show (if mayD pd && mayT pt then 0 else 10) = E from by rw [← HE.out, ← HK.out, restC_end (by have := HN.out; omega)]; rfl)
        clear HK HE
        unfold mayD mayT at HF
        by_cases q1 : pd < 0
        · have HG := Lib.hid (show 10 = E from by rw [← HF.out, decide_eq_false (show ¬ 0 ≤ pd by omega)]; rfl)
          go_wp2
          go_ret
          exact ⟨ret_i64 HG.out, hB⟩
        · by_cases q2 : 1000 < pd
          · have HG := Lib.hid (show 10 = E from by rw [← HF.out, decide_eq_true (show 0 ≤ pd by omega), decide_eq_false (show ¬ pd ≤ 1000 by omega)]; rfl)
            go_wp2
            go_ret
            exact ⟨ret_i64 HG.out, hB⟩
          · by_cases q3 : pt < 1
            · have HG := Lib.hid (show 10 = E from by rw [← HF.out, decide_eq_false (show ¬ 1 ≤ pt by omega), Bool.false_and, Bool.and_false]; rfl)
              go_wp2
              go_ret
              exact ⟨ret_i64 HG.out, hB⟩
            · by_cases q4 : 4096 < pt
              · have HG := Lib.hid (show 10 = E from by rw [← HF.out, decide_eq_false (show ¬ pt ≤ 4096 by omega), Bool.and_false, Bool.and_false]; rfl)
                go_wp2
                go_ret
                exact ⟨ret_i64 HG.out, hB⟩
              · have HG := Lib.hid (show 0 = E from by rw [← HF.out, decide_eq_true (show 0 ≤ pd by omega), decide_eq_true (show pd ≤ 1000 by omega), decide_eq_true (show 1 ≤ pt by omega), decide_eq_true (show pt ≤ 4096 by omega)]; rfl)
                go_wp2
                go_ret
                exact ⟨ret_i64 HG.out, hB⟩
end Go.Proofs.Ytcilnbkmaoneaaa
