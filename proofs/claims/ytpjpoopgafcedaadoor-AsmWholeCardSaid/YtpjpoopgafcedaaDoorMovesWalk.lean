/-
  AsmMoves returns true: the walk.
-/
import Derived.Test.YtpjpoopgafcedaaDoorBytesWalk
set_option linter.unusedSimpArgs false
set_option linter.unusedVariables false
namespace Go.Proofs.YtpjpoopgafcedaaDoor
open Go.RowKit Go.PlainAid Go.Joins

theorem bytes_none (b : Nat) (n a : Int) (h : bytesE b n a ≠ 0) : bytesL b n a = [] := by
  unfold bytesE at h
  unfold bytesL
  split
  · rename_i p hp
    rw [hp] at h
    unfold bytesLk
    rw [if_pos h]
  · rfl
theorem bytesk_ok (b : Nat) (k n a : Int) (hk : 0 ≤ k ∧ k ≤ 12) (h : bytesEk k n a = 0) :
    0 ≤ a ∧ a ≤ 65535 ∧ 0 ≤ n ∧ n ≤ mostD k ∧ a + lenR k ≤ 65536 ∧ (k = 12 ∧ bytesLk b k n a = [(b : Int), (n - a - 2) % 256] ∧ -128 ≤ n - a - 2 ∧ n - a - 2 ≤ 127 ∨ k ≠ 12 ∧ bytesLk b k n a = if lenR k = 1 then [(b : Int)] else if lenR k = 2 then [(b : Int), n % 256] else [(b : Int), n % 256, n / 256]) := by
  have h0 := h
  unfold bytesEk at h
  by_cases h1 : n < 0 ∨ mostD k < n
  · rw [if_pos h1] at h; cases h
  · rw [if_neg h1] at h
    by_cases h2 : a < 0 ∨ 65535 < a ∨ 65536 < a + lenR k
    · rw [if_pos h2] at h; cases h
    · rw [if_neg h2] at h
      refine ⟨by omega, by omega, by omega, by omega, by omega, ?_⟩
      unfold bytesLk
      rw [if_neg (by rw [h0]; simp)]
      by_cases h3 : k = 12
      · rw [if_pos h3]
        by_cases h4 : n - a - 2 < -128 ∨ 127 < n - a - 2
        · rw [if_pos ⟨h3, h4⟩] at h; cases h
        · exact .inl ⟨h3, rfl, by omega, by omega⟩
      · rw [if_neg h3]
        exact .inr ⟨h3, rfl⟩
/-- A call of Bytes that answers some bytes. -/
def BytesAt (w : World) (l : List Int) : Ending → World → Prop := fun e w' =>
  ∃ g c, e = .returned (.tuple #[.slice (some ⟨g, 0, none⟩) l.length c, .int .i64 0]) ∧ w.heap.size ≤ g ∧ g < w'.heap.size ∧ (∀ j x, l[j]? = some x → w'.cell? ⟨g, j, none⟩ = some (.int .u8 x)) ∧ l.length ≤ c ∧ Below w.heap.size w w'
theorem bytesAt_of {w : World} {l : List Int} (hl : l ≠ []) {e : Ending} {w' : World} (h : BytesEnd w l 0 e w') : BytesAt w l e w' := by
  obtain ⟨v, rfl, hown, hb⟩ := h
  have hH := holdsC_own hown
  have hc := hown
  rcases hown.2 with ⟨h1, h2⟩ | ⟨g, cap, cur, h1, h2, h3, h4, _⟩
  · exact absurd (List.length_eq_zero_iff.1 h2) hl
  · subst h1
    refine ⟨g, cap, rfl, h2, (Array.getElem?_eq_some_iff.1 h3).1, fun j x hx => ?_, h4, hb⟩
    have := (hH.holds.at).2 j x hx
    rw [Nat.zero_add] at this
    exact this
theorem bytp_at (b : Nat) (hb : b < 256) (n a : Int) (l : List Int) (hl : l ≠ []) (h1 : bytesL b n a = l) (h2 : bytesE b n a = 0) (w : World) (hld : Laid w) : Calls Tryd.prog 16 #[.agg #[.int .u8 b, .int .i64 n], .int .i64 a] w (BytesAt w l) := by
  have := bytp_c b hb n a w hld
  rw [h1, h2] at this
  exact this.mono fun e w' h => bytesAt_of hl h
set_option maxRecDepth 100000 in
set_option maxHeartbeats 2000000 in
theorem moves_err (b : Nat) (hb : b < 256) (n a t : Int) (h : bytesE b n a ≠ 0 ∨ bytesE b n t ≠ 0) (w : World) (hl : Laid w) :
    Calls Tryd.prog 8 #[.agg #[.int .u8 b, .int .i64 n], .int .i64 a, .int .i64 t] w (LawEnd w) := by
  have HA := Lib.hid awake_c
  have HB := Lib.hid (fun W hl => bytp_c b hb n a W hl)
  have HD := Lib.hid (fun W hl => bytp_c b hb n t W hl)
  have HO := Lib.hid (fun W => of_c b hb W)
  have hx1 : (bytesE b n a == 0) = true ∨ (bytesE b n a == 0) = false ∧ bytesL b n a = [] := by
    by_cases h : bytesE b n a = 0
    · exact .inl (by rw [h]; rfl)
    · exact .inr ⟨by rw [beq_eq_false_iff_ne]; exact h, bytes_none b n a h⟩
  have hx2 : (bytesE b n t == 0) = true ∨ (bytesE b n t == 0) = false ∧ bytesL b n t = [] := by
    by_cases h : bytesE b n t = 0
    · exact .inl (by rw [h]; rfl)
    · exact .inr ⟨by rw [beq_eq_false_iff_ne]; exact h, bytes_none b n t h⟩
  have hor : (bytesE b n a == 0) = false ∨ (bytesE b n t == 0) = false := by
    rcases h with h | h
    · exact .inl (by rw [beq_eq_false_iff_ne]; exact h)
    · exact .inr (by rw [beq_eq_false_iff_ne]; exact h)
  obtain ⟨o1, o2, o3, o4, hv⟩ : ∃ (o1 : ByteArray) (o2 o3 o4 : Int), ofV b = .tuple #[.agg #[.string o1, .int .i64 o2, .int .i64 o3], .int .i64 o4] := by
    unfold ofV opC
    cases isOp b
    · exact ⟨_, _, _, _, rfl⟩
    · exact ⟨_, _, _, _, rfl⟩
  rw [hv] at HO
  generalize bytesL b n a = X at *
  generalize bytesL b n t = Y at *
  generalize bytesE b n a = E at *
  generalize bytesE b n t = F at *
  clear h
  rcases hx1 with e1 | ⟨e1, rfl⟩ <;> rcases hx2 with e2 | ⟨e2, rfl⟩
  · rw [e1, e2] at hor; simp at hor
  all_goals
    have f1 : (E != 0) = !(E == 0) := rfl
    have f2 : (F != 0) = !(F == 0) := rfl
    rw [e1] at f1
    rw [e2] at f2
    clear hor
    go_enter Tryd.func8, Tryd.ntmps8
    go_wp2_with fail
    ((with_reducible refine (HB.out _ (hl.below (by go_grown))).mono ?_); rintro _ u1 ⟨v1, rfl, hown1, hb⟩)
    have hs_u1 := Lib.hid hb
    have T : u1.cell? ⟨w.heap.size, 0, none⟩ = some (.int .u8 b) ∧ u1.cell? ⟨w.heap.size, 1, none⟩ = some (.int .i64 n) := by
        refine ⟨?_, ?_⟩ <;> refine kc hb ?_ <;> (go_simp; first | done | rfl)
    have hz := hb.size
    (try simp only [World.size_alloc, World.size_setCell, World.size_drew] at hz)
    have hlx' : w.heap.size < u1.heap.size := by omega
    have hB' : Below w.heap.size w u1 := by
        refine kb ?_ hb
        go_grown
    clear hb hz
    obtain ⟨hx_0, hx_1⟩ := T
    have hlx := hlx'; clear hlx'
    have hnx0 : ¬ (w.heap.size = u1.heap.size) := by omega
    have hnx1 : ¬ (w.heap.size = u1.heap.size + 1) := by omega
    have hkx1 : w.heap.size < u1.heap.size + 1 := by omega
    have hnx2 : ¬ (w.heap.size = u1.heap.size + 1 + 1) := by omega
    have hkx2 : w.heap.size < u1.heap.size + 1 + 1 := by omega
    have hB := hB'; clear hB'
    have hsz := hB.size
    obtain ⟨p1, c1, rfl, _⟩ := (holds_own hown1).form
    clear hown1 hs_u1
    go_wp2_with fail
    ((with_reducible refine (HD.out _ (hl.below (by go_grown))).mono ?_); rintro _ u2 ⟨v2, rfl, hown2, hb⟩)
    have hs_u2 := Lib.hid hb
    have T : u2.cell? ⟨w.heap.size, 0, none⟩ = some (.int .u8 b) ∧ u2.cell? ⟨w.heap.size, 1, none⟩ = some (.int .i64 n) := by
        refine ⟨?_, ?_⟩ <;> refine kc hb ?_ <;> (go_simp; first | done | rfl)
    have hz := hb.size
    (try simp only [World.size_alloc, World.size_setCell, World.size_drew] at hz)
    have hlx' : w.heap.size < u2.heap.size := by omega
    have hB' : Below w.heap.size w u2 := by
        refine kb ?_ hb
        go_grown
    clear hx_0 hx_1 hlx hnx0 hnx1 hkx1 hnx2 hkx2 hB hsz
    clear hb hz
    obtain ⟨hx_0, hx_1⟩ := T
    have hlx := hlx'; clear hlx'
    have hnx0 : ¬ (w.heap.size = u2.heap.size) := by omega
    have hnx1 : ¬ (w.heap.size = u2.heap.size + 1) := by omega
    have hkx1 : w.heap.size < u2.heap.size + 1 := by omega
    have hnx2 : ¬ (w.heap.size = u2.heap.size + 1 + 1) := by omega
    have hkx2 : w.heap.size < u2.heap.size + 1 + 1 := by omega
    have hB := hB'; clear hB'
    have hsz := hB.size
    obtain ⟨p2, c2, rfl, _⟩ := (holds_own hown2).form
    clear hown2 hs_u2
    go_wp2_with fail
    ((with_reducible refine (HO.out _).mono ?_); rintro _ u3 ⟨rfl, hb⟩)
    have T : u3.cell? ⟨w.heap.size, 0, none⟩ = some (.int .u8 b) ∧ u3.cell? ⟨w.heap.size, 1, none⟩ = some (.int .i64 n) := by
        refine ⟨?_, ?_⟩ <;> refine kc hb ?_ <;> (go_simp; first | done | rfl)
    have hz := hb.size
    (try simp only [World.size_alloc, World.size_setCell, World.size_drew] at hz)
    have hlx' : w.heap.size < u3.heap.size := by omega
    have hB' : Below w.heap.size w u3 := by
        refine kb ?_ hb
        go_grown
    clear hx_0 hx_1 hlx hnx0 hnx1 hkx1 hnx2 hkx2 hB hsz
    clear hb hz
    obtain ⟨hx_0, hx_1⟩ := T
    have hlx := hlx'; clear hlx'
    have hnx0 : ¬ (w.heap.size = u3.heap.size) := by omega
    have hnx1 : ¬ (w.heap.size = u3.heap.size + 1) := by omega
    have hkx1 : w.heap.size < u3.heap.size + 1 := by omega
    have hnx2 : ¬ (w.heap.size = u3.heap.size + 1 + 1) := by omega
    have hkx2 : w.heap.size < u3.heap.size + 1 + 1 := by omega
    have hB := hB'; clear hB'
    have hsz := hB.size
    go_wp2_with fail
    ((with_reducible refine (HA.out _ (hl.below (by go_grown))).mono ?_); rintro _ u4 ⟨rfl, hb⟩)
    have hz := hb.size
    (try simp only [World.size_alloc, World.size_setCell, World.size_drew] at hz)
    have hB' : Below w.heap.size w u4 := by
        refine kb ?_ hb
        go_grown
    clear hx_0 hx_1 hlx hnx0 hnx1 hkx1 hnx2 hkx2 hB hsz
    clear hb hz
    have hB := hB'; clear hB'
    have hsz := hB.size
    go_wp2
    go_ret
    exact ⟨rfl, by go_grown⟩
theorem same_at {w u : World} {g c : Nat} {l : List Int} (h : ∀ j x, l[j]? = some x → w.cell? ⟨g, j, none⟩ = some (.int .u8 x)) : Holds w (.slice (some ⟨g, 0, none⟩) l.length c) l :=
  .inr ⟨g, 0, c, rfl, fun j x hx => by rw [Nat.zero_add]; exact h j x hx⟩
set_option maxRecDepth 100000 in
set_option maxHeartbeats 4000000 in
theorem moves_same (b : Nat) (hb : b < 256) (n a t : Int) (l : List Int) (N : ByteArray) (m K : Int) (hl0 : l[0]? = some (b : Int)) (hm : (m == 12) = false) (hlen : l.length ≤ 3)
    (hB1 : ∀ W, Laid W → Calls Tryd.prog 16 #[.agg #[.int .u8 b, .int .i64 n], .int .i64 a] W (BytesAt W l))
    (hB2 : ∀ W, Laid W → Calls Tryd.prog 16 #[.agg #[.int .u8 b, .int .i64 n], .int .i64 t] W (BytesAt W l))
    (hO : ∀ W, Calls Tryd.prog 24 #[.int .u8 b] W fun e w' => e = .returned (.tuple #[.agg #[.string N, .int .i64 m, .int .i64 K], .int .i64 0]) ∧ Below W.heap.size W w')
    (hLn : ∀ W, Calls Tryd.prog 25 #[.int .i64 m] W fun e w' => e = .returned (.int .i64 (l.length : Int)) ∧ Below W.heap.size W w') (w : World) (hl : Laid w) :
    Calls Tryd.prog 8 #[.agg #[.int .u8 b, .int .i64 n], .int .i64 a, .int .i64 t] w (LawEnd w) := by
  have HA := Lib.hid awake_c
  have HO := Lib.hid hO
  have HL := Lib.hid hLn
  have HB1 := Lib.hid hB1
  have HB2 := Lib.hid hB2
  have hpos : 0 < l.length := first_pos hl0
  have d1 : decide ((l.length : Int) < 1) = false := decide_eq_false (by omega)
  have hin : (0 : Int) ≤ 0 ∧ (0 : Int) < (l.length : Int) := by omega
  have hs0 := Lib.hid hl0
  clear hO hLn hB1 hB2 hl0
  go_enter Tryd.func8, Tryd.ntmps8
  go_wp2_with fail
  ((with_reducible refine (HB1.out _ (hl.below (by go_grown))).mono ?_); rintro _ u1 ⟨g1, c1, rfl, hg1, hg1', hc1, hcap1, hb⟩)
  have hs_u1 := Lib.hid hb
  have T : u1.cell? ⟨w.heap.size, 0, none⟩ = some (.int .u8 b) ∧ u1.cell? ⟨w.heap.size, 1, none⟩ = some (.int .i64 n) := by
      refine ⟨?_, ?_⟩ <;> refine kc hb ?_ <;> (go_simp; first | done | rfl)
  have hz := hb.size
  (try simp only [World.size_alloc, World.size_setCell, World.size_drew] at hz)
  have hlx' : w.heap.size < u1.heap.size := by omega
  have hB' : Below w.heap.size w u1 := by
      refine kb ?_ hb
      go_grown
  clear hb hz
  obtain ⟨hx_0, hx_1⟩ := T
  have hlx := hlx'; clear hlx'
  have hnx0 : ¬ (w.heap.size = u1.heap.size) := by omega
  have hnx1 : ¬ (w.heap.size = u1.heap.size + 1) := by omega
  have hkx1 : w.heap.size < u1.heap.size + 1 := by omega
  have hnx2 : ¬ (w.heap.size = u1.heap.size + 1 + 1) := by omega
  have hkx2 : w.heap.size < u1.heap.size + 1 + 1 := by omega
  have hB := hB'; clear hB'
  have hsz := hB.size
  have hs_0 := hc1 0 _ hs0.out
  have H1 := Lib.hid (same_at (u := w) (c := c1) hc1)
  have hls := hg1'
  have hns0 : ¬ (g1 = u1.heap.size) := by omega
  clear hc1 hg1' hs_u1
  go_wp2_with fail
  ((with_reducible refine (HB2.out _ (hl.below (by go_grown))).mono ?_); rintro _ u2 ⟨g2, c2, rfl, hg2, hg2', hc2, hcap2, hb⟩)
  have hs_u2 := Lib.hid hb
  have T : u2.cell? ⟨w.heap.size, 0, none⟩ = some (.int .u8 b) ∧ u2.cell? ⟨w.heap.size, 1, none⟩ = some (.int .i64 n) ∧ u2.cell? ⟨g1, 0, none⟩ = some (.int .u8 b) := by
      refine ⟨?_, ?_, ?_⟩ <;> refine kc hb ?_ <;> (go_simp; first | done | rfl)
  have hz := hb.size
  (try simp only [World.size_alloc, World.size_setCell, World.size_drew] at hz)
  have hlx' : w.heap.size < u2.heap.size := by omega
  have hls' : g1 < u2.heap.size := by omega
  have hB' : Below w.heap.size w u2 := by
      refine kb ?_ hb
      go_grown
  clear hx_0 hx_1 hlx hnx0 hnx1 hkx1 hnx2 hkx2 hB hsz
  clear hb hz
  obtain ⟨hx_0, hx_1, hs_0⟩ := T
  have hlx := hlx'; clear hlx'
  have hls := hls'; clear hls'
  have hnx0 : ¬ (w.heap.size = u2.heap.size) := by omega
  have hnx1 : ¬ (w.heap.size = u2.heap.size + 1) := by omega
  have hkx1 : w.heap.size < u2.heap.size + 1 := by omega
  have hnx2 : ¬ (w.heap.size = u2.heap.size + 1 + 1) := by omega
  have hkx2 : w.heap.size < u2.heap.size + 1 + 1 := by omega
  have hns0 : ¬ (g1 = u2.heap.size) := by omega
  have hns1 : ¬ (g1 = u2.heap.size + 1) := by omega
  have hks1 : g1 < u2.heap.size + 1 := by omega
  have hns2 : ¬ (g1 = u2.heap.size + 1 + 1) := by omega
  have hks2 : g1 < u2.heap.size + 1 + 1 := by omega
  have hB := hB'; clear hB'
  have hsz := hB.size
  have H2 := Lib.hid (H1.out.below (kb (by go_grown) hs_u2.out))
  have K2 := Lib.hid (same_at (u := w) (c := c2) hc2)
  clear hc2 hg2' hs_u2 H1
  go_wp2_with fail
  ((with_reducible refine (HO.out _).mono ?_); rintro _ u3 ⟨rfl, hb⟩)
  have hs_u3 := Lib.hid hb
  have T : u3.cell? ⟨w.heap.size, 0, none⟩ = some (.int .u8 b) ∧ u3.cell? ⟨w.heap.size, 1, none⟩ = some (.int .i64 n) ∧ u3.cell? ⟨g1, 0, none⟩ = some (.int .u8 b) := by
      refine ⟨?_, ?_, ?_⟩ <;> refine kc hb ?_ <;> (go_simp; first | done | rfl)
  have hz := hb.size
  (try simp only [World.size_alloc, World.size_setCell, World.size_drew] at hz)
  have hlx' : w.heap.size < u3.heap.size := by omega
  have hls' : g1 < u3.heap.size := by omega
  have hB' : Below w.heap.size w u3 := by
      refine kb ?_ hb
      go_grown
  clear hx_0 hx_1 hs_0 hlx hls hnx0 hnx1 hkx1 hnx2 hkx2 hns0 hns1 hks1 hns2 hks2 hB hsz
  clear hb hz
  obtain ⟨hx_0, hx_1, hs_0⟩ := T
  have hlx := hlx'; clear hlx'
  have hls := hls'; clear hls'
  have hnx0 : ¬ (w.heap.size = u3.heap.size) := by omega
  have hnx1 : ¬ (w.heap.size = u3.heap.size + 1) := by omega
  have hkx1 : w.heap.size < u3.heap.size + 1 := by omega
  have hnx2 : ¬ (w.heap.size = u3.heap.size + 1 + 1) := by omega
  have hkx2 : w.heap.size < u3.heap.size + 1 + 1 := by omega
  have hns0 : ¬ (g1 = u3.heap.size) := by omega
  have hns1 : ¬ (g1 = u3.heap.size + 1) := by omega
  have hks1 : g1 < u3.heap.size + 1 := by omega
  have hns2 : ¬ (g1 = u3.heap.size + 1 + 1) := by omega
  have hks2 : g1 < u3.heap.size + 1 + 1 := by omega
  have hB := hB'; clear hB'
  have hsz := hB.size
  have H3 := Lib.hid (H2.out.below (kb (by go_grown) hs_u3.out))
  have K3 := Lib.hid (K2.out.below (kb (by go_grown) hs_u3.out))
  clear hs_u3 H2 K2
  go_wp2_with fail
  have hB3 := Lib.hid hB
  obtain ⟨N3, hN3⟩ : ∃ N3, N3 = u3.heap.size := ⟨_, rfl⟩
  have hbase : N3 ≤ u3.heap.size := by omega
  have HBN := Lib.hid (fun W (h : Below N3 u3 W) => show Below u3.heap.size u3 W from hN3 ▸ h)
  refine wp_region_plan (fun w' => w'.cell? ⟨w.heap.size, 0, none⟩ = some (.int .u8 b) ∧ w'.cell? ⟨w.heap.size, 1, none⟩ = some (.int .i64 n) ∧ w'.cell? ⟨u3.heap.size, 0, none⟩ = some (.string N) ∧ w'.cell? ⟨u3.heap.size, 1, none⟩ = some (.int .i64 m) ∧ w'.cell? ⟨u3.heap.size, 2, none⟩ = some (.int .i64 K) ∧ w'.cell? ⟨g1, 0, none⟩ = some (.int .u8 b) ∧ Below N3 u3 w') (by kernel_rfl) (by kernel_rfl) (by kernel_rfl) ?_ ?_
  · (try dsimp only)
    refine ⟨?_, ?_, ?_, ?_, ?_, ?_, ?_⟩ <;> first | (go_simp; done) | (simp [*]; done) | go_grown
  repeat (first
    | (refine Plan.val (v := ?_) ?_ ?_ ?_; rotate_left; (· rfl); (· (intro W hSw; (try dsimp only at hSw); go_simp; all_goals (first | (with_reducible rfl) | (constructor <;> (with_reducible rfl))))); (try simp only [Act.put, List.setIfInBounds_toArray, List.set_cons_zero, List.set_cons_succ]))
    | (refine Plan.no ?_ ?_; (· rfl); (try simp only [Act.put, List.setIfInBounds_toArray, List.set_cons_zero, List.set_cons_succ]))
    | (refine Plan.call (v := ?_) (f := ?_) (args := ?_) ?_ ?_ ?_ ?_; rotate_left 3; (· rfl); (· (intro W hSw; (try dsimp only at hSw); go_simp; all_goals (first | (with_reducible rfl) | (constructor <;> (with_reducible rfl))))); (· (intro W hSw; (try dsimp only at hSw); first | (go_at_call 25; ((with_reducible refine (HL.out _).mono ?_); rintro _ wz ⟨rfl, hb⟩; (refine ⟨?_, ?_⟩; (· with_reducible rfl); exact ⟨kc hb hSw.1, kc hb hSw.2.1, kc hb hSw.2.2.1, kc hb hSw.2.2.2.1, kc hb hSw.2.2.2.2.1, kc hb hSw.2.2.2.2.2.1, kbn hbase hSw.2.2.2.2.2.2 hb⟩))))); (try simp only [Act.put, List.setIfInBounds_toArray, List.set_cons_zero, List.set_cons_succ])))
  refine Plan.done ?_
  intro u4 T
  (try dsimp only at T)
  clear hx_0 hx_1 hs_0 hlx hls hnx0 hnx1 hkx1 hnx2 hkx2 hns0 hns1 hks1 hns2 hks2 hB hsz
  obtain ⟨hx_0, hx_1, hr3_0, hr3_1, hr3_2, hs_0, hB⟩ := T
  have hsz := hB.size
  have hlx := klt hx_0
  have hlr3 := klt hr3_0
  have hls := klt hs_0
  have hnx0 : ¬ (w.heap.size = u4.heap.size) := by omega
  have hnx1 : ¬ (w.heap.size = u4.heap.size + 1) := by omega
  have hkx1 : w.heap.size < u4.heap.size + 1 := by omega
  have hnx2 : ¬ (w.heap.size = u4.heap.size + 1 + 1) := by omega
  have hkx2 : w.heap.size < u4.heap.size + 1 + 1 := by omega
  have hnr30 : ¬ (u3.heap.size = u4.heap.size) := by omega
  have hnr31 : ¬ (u3.heap.size = u4.heap.size + 1) := by omega
  have hkr31 : u3.heap.size < u4.heap.size + 1 := by omega
  have hnr32 : ¬ (u3.heap.size = u4.heap.size + 1 + 1) := by omega
  have hkr32 : u3.heap.size < u4.heap.size + 1 + 1 := by omega
  have hns0 : ¬ (g1 = u4.heap.size) := by omega
  have hns1 : ¬ (g1 = u4.heap.size + 1) := by omega
  have hks1 : g1 < u4.heap.size + 1 := by omega
  have hns2 : ¬ (g1 = u4.heap.size + 1 + 1) := by omega
  have hks2 : g1 < u4.heap.size + 1 + 1 := by omega
  have hB34 := HBN.out _ hB
  have hB4 := kb hB3.out hB34
  go_wp2_with fail
  refine (same_c _ _ l l u4 (H3.out.below hB34) (K3.out.below hB34) (by omega)).mono ?_
  rintro _ u5 ⟨rfl, hb⟩
  rw [show (l == l) = true from by simp]
  have hB5 := kb hB4 hb
  have hl5 := hl.below hB5
  go_wp2_with fail
  refine (HA.out _ hl5).mono ?_
  rintro _ u6 ⟨rfl, hb6⟩
  have hB6 := kb hB5 hb6
  clear hb hb6 hB hB4 hB5 hB34 hsz
  go_wp2
  go_ret
  exact ⟨rfl, hB6⟩
theorem tmod_zero (x : Int) (h : x % 256 = 0) : (Int.tmod x 256 == 0) = true := by
  rw [beq_iff_eq]
  exact Int.tmod_eq_zero_of_dvd (Int.dvd_of_emod_eq_zero h)
set_option maxRecDepth 100000 in
set_option maxHeartbeats 4000000 in
theorem moves_rel (b : Nat) (hb : b < 256) (n a t y z : Int) (N : ByteArray) (K : Int) (hy : 0 ≤ y ∧ y < 256) (hz : 0 ≤ z ∧ z < 256) (ha : 0 ≤ a ∧ a ≤ 65535) (ht : 0 ≤ t ∧ t ≤ 65535) (hyz : (z - y - a + t) % 256 = 0)
    (hB1 : ∀ W, Laid W → Calls Tryd.prog 16 #[.agg #[.int .u8 b, .int .i64 n], .int .i64 a] W (BytesAt W [(b : Int), y]))
    (hB2 : ∀ W, Laid W → Calls Tryd.prog 16 #[.agg #[.int .u8 b, .int .i64 n], .int .i64 t] W (BytesAt W [(b : Int), z]))
    (hO : ∀ W, Calls Tryd.prog 24 #[.int .u8 b] W fun e w' => e = .returned (.tuple #[.agg #[.string N, .int .i64 12, .int .i64 K], .int .i64 0]) ∧ Below W.heap.size W w')
    (hLn : ∀ W, Calls Tryd.prog 25 #[.int .i64 12] W fun e w' => e = .returned (.int .i64 2) ∧ Below W.heap.size W w') (w : World) (hl : Laid w) :
    Calls Tryd.prog 8 #[.agg #[.int .u8 b, .int .i64 n], .int .i64 a, .int .i64 t] w (LawEnd w) := by
  have HA := Lib.hid awake_c
  have HO := Lib.hid hO
  have HL := Lib.hid hLn
  have HB1 := Lib.hid hB1
  have HB2 := Lib.hid hB2
  have w1 : IntKind.i64.wrap z = z := IntWalk.i64_in _ (by omega)
  have w2 : IntKind.i64.wrap y = y := IntWalk.i64_in _ (by omega)
  have w3 : IntKind.i64.wrap (z - y) = z - y := IntWalk.i64_in _ (by omega)
  have w4 : IntKind.i64.wrap (z - y - a) = z - y - a := IntWalk.i64_in _ (by omega)
  have w5 : IntKind.i64.wrap (z - y - a + t) = z - y - a + t := IntWalk.i64_in _ (by omega)
  have w6 := tmod_zero _ hyz
  have e6 : Int.tmod (z - y - a + t) 256 = 0 := by simpa using w6
  have w7 : IntKind.i64.wrap (Int.tmod (z - y - a + t) 256) = Int.tmod (z - y - a + t) 256 := by rw [e6]; rfl
  clear e6
  clear hO hLn hB1 hB2 hy hz ha ht hyz
  go_enter Tryd.func8, Tryd.ntmps8
  go_wp2_with fail
  ((with_reducible refine (HB1.out _ (hl.below (by go_grown))).mono ?_); rintro _ u1 ⟨g1, c1, rfl, hg1, hg1', hc1, hcap1, hb⟩)
  have hs_u1 := Lib.hid hb
  have T : u1.cell? ⟨w.heap.size, 0, none⟩ = some (.int .u8 b) ∧ u1.cell? ⟨w.heap.size, 1, none⟩ = some (.int .i64 n) := by
      refine ⟨?_, ?_⟩ <;> refine kc hb ?_ <;> (go_simp; first | done | rfl)
  have hz := hb.size
  (try simp only [World.size_alloc, World.size_setCell, World.size_drew] at hz)
  have hlx' : w.heap.size < u1.heap.size := by omega
  have hB' : Below w.heap.size w u1 := by
      refine kb ?_ hb
      go_grown
  clear hb hz
  obtain ⟨hx_0, hx_1⟩ := T
  have hlx := hlx'; clear hlx'
  have hnx0 : ¬ (w.heap.size = u1.heap.size) := by omega
  have hnx1 : ¬ (w.heap.size = u1.heap.size + 1) := by omega
  have hkx1 : w.heap.size < u1.heap.size + 1 := by omega
  have hnx2 : ¬ (w.heap.size = u1.heap.size + 1 + 1) := by omega
  have hkx2 : w.heap.size < u1.heap.size + 1 + 1 := by omega
  have hB := hB'; clear hB'
  have hsz := hB.size
  have hs_0 := hc1 0 _ rfl
  have hs_1 := hc1 1 _ rfl
  have hls := hg1'
  have hns0 : ¬ (g1 = u1.heap.size) := by omega
  clear hc1 hg1' hs_u1
  go_wp2_with fail
  ((with_reducible refine (HB2.out _ (hl.below (by go_grown))).mono ?_); rintro _ u2 ⟨g2, c2, rfl, hg2, hg2', hc2, hcap2, hb⟩)
  have hs_u2 := Lib.hid hb
  have T : u2.cell? ⟨w.heap.size, 0, none⟩ = some (.int .u8 b) ∧ u2.cell? ⟨w.heap.size, 1, none⟩ = some (.int .i64 n) ∧ u2.cell? ⟨g1, 0, none⟩ = some (.int .u8 b) ∧ u2.cell? ⟨g1, 1, none⟩ = some (.int .u8 y) := by
      refine ⟨?_, ?_, ?_, ?_⟩ <;> refine kc hb ?_ <;> (go_simp; first | done | rfl)
  have hz := hb.size
  (try simp only [World.size_alloc, World.size_setCell, World.size_drew] at hz)
  have hlx' : w.heap.size < u2.heap.size := by omega
  have hls' : g1 < u2.heap.size := by omega
  have hB' : Below w.heap.size w u2 := by
      refine kb ?_ hb
      go_grown
  clear hx_0 hx_1 hlx hnx0 hnx1 hkx1 hnx2 hkx2 hB hsz
  clear hb hz
  obtain ⟨hx_0, hx_1, hs_0, hs_1⟩ := T
  have hlx := hlx'; clear hlx'
  have hls := hls'; clear hls'
  have hnx0 : ¬ (w.heap.size = u2.heap.size) := by omega
  have hnx1 : ¬ (w.heap.size = u2.heap.size + 1) := by omega
  have hkx1 : w.heap.size < u2.heap.size + 1 := by omega
  have hnx2 : ¬ (w.heap.size = u2.heap.size + 1 + 1) := by omega
  have hkx2 : w.heap.size < u2.heap.size + 1 + 1 := by omega
  have hns0 : ¬ (g1 = u2.heap.size) := by omega
  have hns1 : ¬ (g1 = u2.heap.size + 1) := by omega
  have hks1 : g1 < u2.heap.size + 1 := by omega
  have hns2 : ¬ (g1 = u2.heap.size + 1 + 1) := by omega
  have hks2 : g1 < u2.heap.size + 1 + 1 := by omega
  have hB := hB'; clear hB'
  have hsz := hB.size
  have ht_0 := hc2 0 _ rfl
  have ht_1 := hc2 1 _ rfl
  have hlt := hg2'
  have hnt0 : ¬ (g2 = u2.heap.size) := by omega
  clear hc2 hg2' hs_u2
  go_wp2_with fail
  ((with_reducible refine (HO.out _).mono ?_); rintro _ u3 ⟨rfl, hb⟩)
  have T : u3.cell? ⟨w.heap.size, 0, none⟩ = some (.int .u8 b) ∧ u3.cell? ⟨w.heap.size, 1, none⟩ = some (.int .i64 n) ∧ u3.cell? ⟨g1, 0, none⟩ = some (.int .u8 b) ∧ u3.cell? ⟨g1, 1, none⟩ = some (.int .u8 y) ∧ u3.cell? ⟨g2, 0, none⟩ = some (.int .u8 b) ∧ u3.cell? ⟨g2, 1, none⟩ = some (.int .u8 z) := by
      refine ⟨?_, ?_, ?_, ?_, ?_, ?_⟩ <;> refine kc hb ?_ <;> (go_simp; first | done | rfl)
  have hz := hb.size
  (try simp only [World.size_alloc, World.size_setCell, World.size_drew] at hz)
  have hlx' : w.heap.size < u3.heap.size := by omega
  have hls' : g1 < u3.heap.size := by omega
  have hlt' : g2 < u3.heap.size := by omega
  have hB' : Below w.heap.size w u3 := by
      refine kb ?_ hb
      go_grown
  clear hx_0 hx_1 hs_0 hs_1 hlx hls hnx0 hnx1 hkx1 hnx2 hkx2 hns0 hns1 hks1 hns2 hks2 hB hsz
  clear hb hz
  obtain ⟨hx_0, hx_1, hs_0, hs_1, ht_0, ht_1⟩ := T
  have hlx := hlx'; clear hlx'
  have hls := hls'; clear hls'
  have hlt := hlt'; clear hlt'
  have hnx0 : ¬ (w.heap.size = u3.heap.size) := by omega
  have hnx1 : ¬ (w.heap.size = u3.heap.size + 1) := by omega
  have hkx1 : w.heap.size < u3.heap.size + 1 := by omega
  have hnx2 : ¬ (w.heap.size = u3.heap.size + 1 + 1) := by omega
  have hkx2 : w.heap.size < u3.heap.size + 1 + 1 := by omega
  have hns0 : ¬ (g1 = u3.heap.size) := by omega
  have hns1 : ¬ (g1 = u3.heap.size + 1) := by omega
  have hks1 : g1 < u3.heap.size + 1 := by omega
  have hns2 : ¬ (g1 = u3.heap.size + 1 + 1) := by omega
  have hks2 : g1 < u3.heap.size + 1 + 1 := by omega
  have hnt0 : ¬ (g2 = u3.heap.size) := by omega
  have hnt1 : ¬ (g2 = u3.heap.size + 1) := by omega
  have hkt1 : g2 < u3.heap.size + 1 := by omega
  have hnt2 : ¬ (g2 = u3.heap.size + 1 + 1) := by omega
  have hkt2 : g2 < u3.heap.size + 1 + 1 := by omega
  have hB := hB'; clear hB'
  have hsz := hB.size
  go_wp2_with fail
  have hB3 := Lib.hid hB
  obtain ⟨N3, hN3⟩ : ∃ N3, N3 = u3.heap.size := ⟨_, rfl⟩
  have hbase : N3 ≤ u3.heap.size := by omega
  have HBN := Lib.hid (fun W (h : Below N3 u3 W) => show Below u3.heap.size u3 W from hN3 ▸ h)
  refine wp_region_plan (fun w' => w'.cell? ⟨w.heap.size, 0, none⟩ = some (.int .u8 b) ∧ w'.cell? ⟨w.heap.size, 1, none⟩ = some (.int .i64 n) ∧ w'.cell? ⟨u3.heap.size, 0, none⟩ = some (.string N) ∧ w'.cell? ⟨u3.heap.size, 1, none⟩ = some (.int .i64 12) ∧ w'.cell? ⟨u3.heap.size, 2, none⟩ = some (.int .i64 K) ∧ w'.cell? ⟨g1, 0, none⟩ = some (.int .u8 b) ∧ w'.cell? ⟨g1, 1, none⟩ = some (.int .u8 y) ∧ w'.cell? ⟨g2, 0, none⟩ = some (.int .u8 b) ∧ w'.cell? ⟨g2, 1, none⟩ = some (.int .u8 z) ∧ Below N3 u3 w') (by kernel_rfl) (by kernel_rfl) (by kernel_rfl) ?_ ?_
  · (try dsimp only)
    refine ⟨?_, ?_, ?_, ?_, ?_, ?_, ?_, ?_, ?_, ?_⟩ <;> first | (go_simp; done) | (simp [*]; done) | go_grown
  repeat (first
    | (refine Plan.val (v := ?_) ?_ ?_ ?_; rotate_left; (· rfl); (· (intro W hSw; (try dsimp only at hSw); go_simp; all_goals (first | (with_reducible rfl) | (constructor <;> (with_reducible rfl))))); (try simp only [Act.put, List.setIfInBounds_toArray, List.set_cons_zero, List.set_cons_succ]))
    | (refine Plan.no ?_ ?_; (· rfl); (try simp only [Act.put, List.setIfInBounds_toArray, List.set_cons_zero, List.set_cons_succ]))
    | (refine Plan.call (v := ?_) (f := ?_) (args := ?_) ?_ ?_ ?_ ?_; rotate_left 3; (· rfl); (· (intro W hSw; (try dsimp only at hSw); go_simp; all_goals (first | (with_reducible rfl) | (constructor <;> (with_reducible rfl))))); (· (intro W hSw; (try dsimp only at hSw); first | (go_at_call 25; ((with_reducible refine (HL.out _).mono ?_); rintro _ wz ⟨rfl, hb⟩; (refine ⟨?_, ?_⟩; (· with_reducible rfl); exact ⟨kc hb hSw.1, kc hb hSw.2.1, kc hb hSw.2.2.1, kc hb hSw.2.2.2.1, kc hb hSw.2.2.2.2.1, kc hb hSw.2.2.2.2.2.1, kc hb hSw.2.2.2.2.2.2.1, kc hb hSw.2.2.2.2.2.2.2.1, kc hb hSw.2.2.2.2.2.2.2.2.1, kbn hbase hSw.2.2.2.2.2.2.2.2.2 hb⟩))))); (try simp only [Act.put, List.setIfInBounds_toArray, List.set_cons_zero, List.set_cons_succ])))
  refine Plan.done ?_
  intro u4 T
  (try dsimp only at T)
  clear hx_0 hx_1 hs_0 hs_1 ht_0 ht_1 hlx hls hlt hnx0 hnx1 hkx1 hnx2 hkx2 hns0 hns1 hks1 hns2 hks2 hnt0 hnt1 hkt1 hnt2 hkt2 hB hsz
  obtain ⟨hx_0, hx_1, hr_0, hr_1, hr_2, hs_0, hs_1, ht_0, ht_1, hB⟩ := T
  have hsz := hB.size
  have hlx := klt hx_0
  have hlr := klt hr_0
  have hls := klt hs_0
  have hlt := klt ht_0
  have hnx0 : ¬ (w.heap.size = u4.heap.size) := by omega
  have hnx1 : ¬ (w.heap.size = u4.heap.size + 1) := by omega
  have hkx1 : w.heap.size < u4.heap.size + 1 := by omega
  have hnx2 : ¬ (w.heap.size = u4.heap.size + 1 + 1) := by omega
  have hkx2 : w.heap.size < u4.heap.size + 1 + 1 := by omega
  have hnr0 : ¬ (u3.heap.size = u4.heap.size) := by omega
  have hnr1 : ¬ (u3.heap.size = u4.heap.size + 1) := by omega
  have hkr1 : u3.heap.size < u4.heap.size + 1 := by omega
  have hnr2 : ¬ (u3.heap.size = u4.heap.size + 1 + 1) := by omega
  have hkr2 : u3.heap.size < u4.heap.size + 1 + 1 := by omega
  have hns0 : ¬ (g1 = u4.heap.size) := by omega
  have hns1 : ¬ (g1 = u4.heap.size + 1) := by omega
  have hks1 : g1 < u4.heap.size + 1 := by omega
  have hns2 : ¬ (g1 = u4.heap.size + 1 + 1) := by omega
  have hks2 : g1 < u4.heap.size + 1 + 1 := by omega
  have hnt0 : ¬ (g2 = u4.heap.size) := by omega
  have hnt1 : ¬ (g2 = u4.heap.size + 1) := by omega
  have hkt1 : g2 < u4.heap.size + 1 := by omega
  have hnt2 : ¬ (g2 = u4.heap.size + 1 + 1) := by omega
  have hkt2 : g2 < u4.heap.size + 1 + 1 := by omega
  have hB4 := Lib.hid (kb hB3.out (HBN.out _ hB))
  go_wp2_with fail
  have hl4 := Lib.hid (hl.below hB4.out)
  obtain ⟨N4, hN4⟩ : ∃ N4, N4 = u4.heap.size := ⟨_, rfl⟩
  have hbase : N4 ≤ u4.heap.size := by omega
  have HB4 := Lib.hid (fun W (h : Below N4 u4 W) => show Below u4.heap.size u4 W from hN4 ▸ h)
  refine wp_region_plan (fun w' => w'.cell? ⟨g1, 0, none⟩ = some (.int .u8 b) ∧ w'.cell? ⟨g1, 1, none⟩ = some (.int .u8 y) ∧ w'.cell? ⟨g2, 0, none⟩ = some (.int .u8 b) ∧ w'.cell? ⟨g2, 1, none⟩ = some (.int .u8 z) ∧ Below N4 u4 w') (by kernel_rfl) (by kernel_rfl) (by kernel_rfl) ?_ ?_
  · (try dsimp only)
    refine ⟨?_, ?_, ?_, ?_, ?_⟩ <;> first | (go_simp; done) | (simp [*]; done) | go_grown
  repeat (first
    | (refine Plan.val (v := ?_) ?_ ?_ ?_; rotate_left; (· rfl); (· (intro W hSw; (try dsimp only at hSw); go_simp; all_goals (first | (with_reducible rfl) | (constructor <;> (with_reducible rfl))))); (try simp only [Act.put, List.setIfInBounds_toArray, List.set_cons_zero, List.set_cons_succ]))
    | (refine Plan.no ?_ ?_; (· rfl); (try simp only [Act.put, List.setIfInBounds_toArray, List.set_cons_zero, List.set_cons_succ]))
    | (refine Plan.call (v := ?_) (f := ?_) (args := ?_) ?_ ?_ ?_ ?_; rotate_left 3; (· rfl); (· (intro W hSw; (try dsimp only at hSw); go_simp; all_goals (first | (with_reducible rfl) | (constructor <;> (with_reducible rfl))))); (· (intro W hSw; (try dsimp only at hSw); first | (go_at_call 9; ((with_reducible refine (HA.out _ (hl4.out.below (HB4.out _ hSw.2.2.2.2))).mono ?_); rintro _ wz ⟨rfl, hb⟩; (refine ⟨?_, ?_⟩; (· with_reducible rfl); exact ⟨kc hb hSw.1, kc hb hSw.2.1, kc hb hSw.2.2.1, kc hb hSw.2.2.2.1, kbn hbase hSw.2.2.2.2 hb⟩))))); (try simp only [Act.put, List.setIfInBounds_toArray, List.set_cons_zero, List.set_cons_succ])))
  refine Plan.done ?_
  intro wz T
  (try dsimp only at T)
  have hBe := T.2.2.2.2
  go_wp2
  go_ret
  exact ⟨rfl, kb hB4.out (HB4.out _ hBe)⟩
theorem moves_walk (b : Nat) (hb : b < 256) (n a t : Int) (w : World) (hl : Laid w) :
    Calls Tryd.prog 8 #[.agg #[.int .u8 b, .int .i64 n], .int .i64 a, .int .i64 t] w (LawEnd w) := by
  by_cases h : bytesE b n a ≠ 0 ∨ bytesE b n t ≠ 0
  · exact moves_err b hb n a t h w hl
  have h1 : bytesE b n a = 0 := by
    by_cases e : bytesE b n a = 0
    · exact e
    · exact absurd (.inl e) h
  have h2 : bytesE b n t = 0 := by
    by_cases e : bytesE b n t = 0
    · exact e
    · exact absurd (.inr e) h
  cases hp : placeL.getD b none with
  | none => unfold bytesE at h1; rw [hp] at h1; cases h1
  | some p =>
    have ho : isOp b = true := by unfold isOp; rw [hp]; rfl
    obtain ⟨p', hp', hnm, hmd⟩ := op_place b ho
    obtain rfl : p' = p := Option.some.inj (hp'.symm.trans hp)
    have eE1 : bytesEk ((p' % 13 : Nat) : Int) n a = 0 := by rw [← h1]; unfold bytesE; rw [hp]
    have eE2 : bytesEk ((p' % 13 : Nat) : Int) n t = 0 := by rw [← h2]; unfold bytesE; rw [hp]
    have eL1 : bytesL b n a = bytesLk b ((p' % 13 : Nat) : Int) n a := by unfold bytesL; rw [hp]
    have eL2 : bytesL b n t = bytesLk b ((p' % 13 : Nat) : Int) n t := by unfold bytesL; rw [hp]
    have hv' : ofV b = .tuple #[.agg #[.string ⟨(nm b).toArray⟩, .int .i64 ((p' % 13 : Nat) : Int), .int .i64 (kindP (nm b) (md b))], .int .i64 0] := by unfold ofV opC errOf; rw [ho, hmd]; rfl
    have hO : ∀ w, Calls Tryd.prog 24 #[.int .u8 b] w fun e w' => e = .returned (.tuple #[.agg #[.string ⟨(nm b).toArray⟩, .int .i64 ((p' % 13 : Nat) : Int), .int .i64 (kindP (nm b) (md b))], .int .i64 0]) ∧ Below w.heap.size w w' := fun w => by have := of_c b hb w; rw [hv'] at this; exact this
    have hm : p' % 13 < 13 := Nat.mod_lt _ (by omega)
    obtain ⟨q1, q2, q3⟩ := lenp_r ⟨p' % 13, hm⟩
    have hLn := fun w => lenp_c ((p' % 13 : Nat) : Int) w
    dsimp only at q1 q2 q3
    rw [q1] at hLn
    have hmo := most_hi ((p' % 13 : Nat) : Int)
    have hk : (0 : Int) ≤ ((p' % 13 : Nat) : Int) ∧ ((p' % 13 : Nat) : Int) ≤ 12 := by omega
    generalize ((p' % 13 : Nat) : Int) = k at *
    obtain ⟨x1, x2, x3, x4, x5, x6⟩ := bytesk_ok b k n a hk eE1
    obtain ⟨y1, y2, y3, y4, y5, y6⟩ := bytesk_ok b k n t hk eE2
    rcases x6 with ⟨e1, e2, e3, e4⟩ | ⟨e1, e2⟩
    · rcases y6 with ⟨f1, f2, f3, f4⟩ | ⟨f1, f2⟩
      · subst e1
        rw [len_rel] at hLn
        exact moves_rel b hb n a t _ _ _ _ (by omega) (by omega) ⟨x1, x2⟩ ⟨y1, y2⟩ (by omega) (fun W hl => bytp_at b hb n a _ (by simp) (eL1.trans e2) h1 W hl) (fun W hl => bytp_at b hb n t _ (by simp) (eL2.trans f2) h2 W hl) hO hLn w hl
      · exact absurd e1 f1
    · rcases y6 with ⟨f1, f2, f3, f4⟩ | ⟨f1, f2⟩
      · exact absurd f1 e1
      · have hlen : ((if lenR k = 1 then [(b : Int)] else if lenR k = 2 then [(b : Int), n % 256] else [(b : Int), n % 256, n / 256] : List Int).length : Int) = lenR k := by
          split
          · rename_i h; rw [h]; rfl
          · split
            · rename_i h; rw [h]; rfl
            · simp; omega
        have h0 : (if lenR k = 1 then [(b : Int)] else if lenR k = 2 then [(b : Int), n % 256] else [(b : Int), n % 256, n / 256] : List Int)[0]? = some (b : Int) := by
          split
          · rfl
          · split <;> rfl
        rw [← hlen] at hLn
        generalize (if lenR k = 1 then [(b : Int)] else if lenR k = 2 then [(b : Int), n % 256] else [(b : Int), n % 256, n / 256] : List Int) = l at *
        have hne : l ≠ [] := by intro e; rw [e] at h0; cases h0
        exact moves_same b hb n a t l _ _ _ h0 (by rw [beq_eq_false_iff_ne]; exact e1) (by omega) (fun W hl => bytp_at b hb n a _ hne (eL1.trans e2) h1 W hl) (fun W hl => bytp_at b hb n t _ hne (eL2.trans f2) h2 W hl) hO hLn w hl
end Go.Proofs.YtpjpoopgafcedaaDoor
