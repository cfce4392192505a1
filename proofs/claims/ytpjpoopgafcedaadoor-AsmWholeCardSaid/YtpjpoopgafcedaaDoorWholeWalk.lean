/-
  AsmWhole returns true: the walk.
-/
import Derived.Test.YtpjpoopgafcedaaDoorAsmp
import Derived.Test.YtpjpoopgafcedaaDoorListg
import Derived.Test.YtpjpoopgafcedaaDoorWholePure
import Derived.Test.YtpjpoopgafcedaaDoorLawKit
set_option linter.unusedSimpArgs false
set_option linter.unusedVariables false
namespace Go.Proofs.YtpjpoopgafcedaaDoor
open Go.RowKit Go.PlainAid Go.Joins

set_option maxRecDepth 100000 in
set_option maxHeartbeats 1000000 in
theorem whole_long (p : Option Addr) (L c : Nat) (S : ByteArray) (a : Int) (h : 200 < L ∨ 300 < S.size) (w : World) (hl : Laid w) : Calls Tryd.prog 7 #[.slice p L c, .string S, .int .i64 a] w (LawEnd w) := by
  have HA := Lib.hid awake_c
  obtain d1 | ⟨d1, d2⟩ : decide ((200 : Int) < (L : Int)) = true ∨ (decide ((200 : Int) < (L : Int)) = false ∧ decide ((300 : Int) < (S.size : Int)) = true) := by
    by_cases h1 : 200 < L
    · exact .inl (decide_eq_true (by omega))
    · exact .inr ⟨decide_eq_false (by omega), decide_eq_true (by omega)⟩
  all_goals
    clear h
    go_enter Tryd.func7, Tryd.ntmps7
    go_wp2_with fail
    ((with_reducible refine (HA.out _ (hl.below (by go_grown))).mono ?_); rintro _ u ⟨rfl, hb⟩)
    have hz := hb.size
    (try simp only [World.size_alloc, World.size_setCell, World.size_drew] at hz)
    have hB' : Below w.heap.size w u := by
        refine kb ?_ hb
        go_grown
    clear hb hz
    have hB := hB'; clear hB'
    have hsz := hB.size
    go_wp2
    go_ret
    exact ⟨rfl, by go_grown⟩
set_option maxRecDepth 100000 in
set_option maxHeartbeats 4000000 in
theorem whole_short (l c' : List Int) (p : Option Addr) (c : Nat) (T S U : ByteArray) (a i0 e i1 f j : Int) (h1 : l.length ≤ 200) (h2 : S.size ≤ 300) (h3 : c'.length ≤ 1000000)
    (hL : ∀ W, HoldsC W (.slice p l.length c) l → Laid W → Calls Tryd.prog 21 #[.slice p l.length c, .int .i64 a] W fun x W' => x = .returned (.tuple #[.string T, .int .i64 i0, .int .i64 e]) ∧ Below W.heap.size W W')
    (hT : e = 0 → ∀ W, Laid W → LaidE W → Calls Tryd.prog 23 #[.string T, .int .i64 a] W (AsmEnd W (l, 0, 0)))
    (hS : ∀ W, Laid W → LaidE W → Calls Tryd.prog 23 #[.string S, .int .i64 a] W (AsmEnd W (c', i1, f)))
    (hn : f ≠ 0 → c' = [])
    (hC : f = 0 → ∀ p c W, HoldsC W (.slice p c'.length c) c' → Laid W → Calls Tryd.prog 21 #[.slice p c'.length c, .int .i64 a] W fun x W' => x = .returned (.tuple #[.string U, .int .i64 j, .int .i64 0]) ∧ Below W.heap.size W W')
    (hU : f = 0 → ∀ W, Laid W → LaidE W → Calls Tryd.prog 23 #[.string U, .int .i64 a] W (AsmEnd W (c', 0, 0)))
    (w : World) (hv : HoldsC w (.slice p l.length c) l) (hl : Laid w) (hE : LaidE w) :
    Calls Tryd.prog 7 #[.slice p l.length c, .string S, .int .i64 a] w (LawEnd w) := by
  have d1 : decide ((200 : Int) < (l.length : Int)) = false := decide_eq_false (by omega)
  have d2 : decide ((300 : Int) < (S.size : Int)) = false := decide_eq_false (by omega)
  have HA := Lib.hid awake_c
  have HL := Lib.hid hL
  have HS := Lib.hid hS
  have HN := Lib.hid hn
  have HC := Lib.hid hC
  have HU := Lib.hid hU
  have HT := Lib.hid hT
  have h1' := Lib.hid (show l.length ≤ 1000000 by omega)
  have h3' := Lib.hid h3
  clear hL hS hn hC hU hT h1 h2 h3
  go_enter Tryd.func7, Tryd.ntmps7
  go_wp2_with fail
  ((with_reducible refine (HL.out _ (hv.below (by go_grown)) (hl.below (by go_grown))).mono ?_); rintro _ u1 ⟨rfl, hb⟩)
  have hz := hb.size
  (try simp only [World.size_alloc, World.size_setCell, World.size_drew] at hz)
  have hB' : Below w.heap.size w u1 := by
      refine kb ?_ hb
      go_grown
  clear hb hz
  have hB := hB'; clear hB'
  have hsz := hB.size
  by_cases he : e = 0
  · have e1 : (e == 0) = true := by rw [he]; rfl
    subst he
    go_wp2_with fail
    ((with_reducible refine (HT.out trivial _ (hl.below hB) (hE.below hB)).mono ?_); rintro _ u2 ⟨v1, rfl, hown1, hb⟩)
    have hs_u2 := Lib.hid hb
    have hz := hb.size
    (try simp only [World.size_alloc, World.size_setCell, World.size_drew] at hz)
    have hB' : Below w.heap.size w u2 := by
        refine kb ?_ hb
        go_grown
    clear hB hsz
    clear hb hz
    have hB := hB'; clear hB'
    have hsz := hB.size
    have H1 := Lib.hid (holds_own hown1)
    obtain ⟨p1, c1, rfl⟩ := own_form hown1
    clear hown1 hs_u2
    go_wp2_with fail
    have hS := same_c _ _ l l u2 H1.out (hv.holds.below hB) h1'.out
    rw [show (l == l) = true from by simp] at hS
    ((with_reducible refine (hS).mono ?_); rintro _ u3 ⟨rfl, hb⟩)
    have hz := hb.size
    (try simp only [World.size_alloc, World.size_setCell, World.size_drew] at hz)
    have hB' : Below w.heap.size w u3 := by
        refine kb ?_ hb
        go_grown
    clear hB hsz
    clear hb hz
    have hB := hB'; clear hB'
    have hsz := hB.size
    clear hS H1
    go_wp2_with fail
    ((with_reducible refine (HS.out _ (hl.below hB) (hE.below hB)).mono ?_); rintro _ u4 ⟨v2, rfl, hown2, hb⟩)
    have hs_u4 := Lib.hid hb
    have hz := hb.size
    (try simp only [World.size_alloc, World.size_setCell, World.size_drew] at hz)
    have hB' : Below w.heap.size w u4 := by
        refine kb ?_ hb
        go_grown
    clear hB hsz
    clear hb hz
    have hB := hB'; clear hB'
    have hsz := hB.size
    have H2 := Lib.hid (holdsC_own hown2)
    obtain ⟨p2, c2, rfl⟩ := own_form hown2
    have hl4 := hl.below hB
    have hE4 := hE.below hB
    have hBw := Lib.hid hB
    have hsz4 := hB.size
    clear hown2 hs_u4
    by_cases hf : f = 0
    · have f1 : (f != 0) = false := by rw [hf]; rfl
      subst hf
      go_wp2_with fail
      have hb4 : Below u4.heap.size u4 u4 := Below.refl _ _
      ((with_reducible refine (HC.out trivial _ _ _ (H2.out.below (by go_grown)) (hl4.below (by go_grown))).mono ?_); rintro _ u5 ⟨rfl, hb⟩)
      have hz := hb.size
      (try simp only [World.size_alloc, World.size_setCell, World.size_drew] at hz)
      have hB' : Below u4.heap.size u4 u5 := by
          refine kb ?_ hb
          go_grown
      clear hB hsz
      clear hb hz
      have hB := hB'; clear hB'
      have hsz := hB.size
      go_wp2_with fail
      ((with_reducible refine (HU.out trivial _ (hl4.below hB) (hE4.below hB)).mono ?_); rintro _ u6 ⟨v3, rfl, hown3, hb⟩)
      have hs_u6 := Lib.hid hb
      have hz := hb.size
      (try simp only [World.size_alloc, World.size_setCell, World.size_drew] at hz)
      have hB' : Below u4.heap.size u4 u6 := by
          refine kb ?_ hb
          go_grown
      clear hB hsz
      clear hb hz
      have hB := hB'; clear hB'
      have hsz := hB.size
      have H3 := Lib.hid (holds_own hown3)
      clear hown3 hs_u6
      by_cases hz : c'.length = 0
      · have z1 : ((c'.length : Int) == 0) = true := by rw [hz]; rfl
        clear hz
        go_wp2_with fail
        ((with_reducible refine (HA.out _ (hl4.below hB)).mono ?_); rintro _ u7 ⟨rfl, hb⟩)
        have hz := hb.size
        (try simp only [World.size_alloc, World.size_setCell, World.size_drew] at hz)
        have hB' : Below u4.heap.size u4 u7 := by
            refine kb ?_ hb
            go_grown
        clear hB hsz
        clear hb hz
        have hB := hB'; clear hB'
        have hsz := hB.size
        go_wp2
        go_ret
        exact ⟨rfl, hBw.out.trans (Below.mono (by go_grown : Below u4.heap.size u4 _) hsz4)⟩
      · have z1 : ((c'.length : Int) == 0) = false := by rw [beq_eq_false_iff_ne]; omega
        have z2 : ((l.length : Int) == (l.length : Int)) = true := by simp
        clear hz
        go_wp2_with fail
        have hS := same_c _ _ c' c' u6 (H2.out.holds.below hB) H3.out h3'.out
        rw [show (c' == c') = true from by simp] at hS
        ((with_reducible refine (hS).mono ?_); rintro _ u7 ⟨rfl, hb⟩)
        have hz := hb.size
        (try simp only [World.size_alloc, World.size_setCell, World.size_drew] at hz)
        have hB' : Below u4.heap.size u4 u7 := by
            refine kb ?_ hb
            go_grown
        clear hB hsz
        clear hb hz
        have hB := hB'; clear hB'
        have hsz := hB.size
        clear hS H3
        go_wp2_with fail
        ((with_reducible refine (HA.out _ (hl4.below hB)).mono ?_); rintro _ u8 ⟨rfl, hb⟩)
        have hz := hb.size
        (try simp only [World.size_alloc, World.size_setCell, World.size_drew] at hz)
        have hB' : Below u4.heap.size u4 u8 := by
            refine kb ?_ hb
            go_grown
        clear hB hsz
        clear hb hz
        have hB := hB'; clear hB'
        have hsz := hB.size
        go_wp2
        go_ret
        exact ⟨rfl, hBw.out.trans (Below.mono (by go_grown : Below u4.heap.size u4 _) hsz4)⟩
    · have f1 : (f != 0) = true := by simp [bne, hf]
      obtain rfl := HN.out hf
      clear hf
      go_wp2_with fail
      ((with_reducible refine (HA.out _ (hl4.below (Below.refl _ _))).mono ?_); rintro _ u5 ⟨rfl, hb⟩)
      have hz := hb.size
      (try simp only [World.size_alloc, World.size_setCell, World.size_drew] at hz)
      have hB' : Below w.heap.size w u5 := by
          refine kb ?_ hb
          go_grown
      clear hB hsz
      clear hb hz
      have hB := hB'; clear hB'
      have hsz := hB.size
      go_wp2
      go_ret
      exact ⟨rfl, by go_grown⟩
  · have e1 : (e == 0) = false := by rw [beq_eq_false_iff_ne]; exact he
    clear he
    go_wp2_with fail
    ((with_reducible refine (HS.out _ (hl.below hB) (hE.below hB)).mono ?_); rintro _ u4 ⟨v2, rfl, hown2, hb⟩)
    have hs_u4 := Lib.hid hb
    have hz := hb.size
    (try simp only [World.size_alloc, World.size_setCell, World.size_drew] at hz)
    have hB' : Below w.heap.size w u4 := by
        refine kb ?_ hb
        go_grown
    clear hB hsz
    clear hb hz
    have hB := hB'; clear hB'
    have hsz := hB.size
    have H2 := Lib.hid (holdsC_own hown2)
    obtain ⟨p2, c2, rfl⟩ := own_form hown2
    have hl4 := hl.below hB
    have hE4 := hE.below hB
    have hBw := Lib.hid hB
    have hsz4 := hB.size
    clear hown2 hs_u4
    by_cases hf : f = 0
    · have f1 : (f != 0) = false := by rw [hf]; rfl
      subst hf
      go_wp2_with fail
      have hb4 : Below u4.heap.size u4 u4 := Below.refl _ _
      ((with_reducible refine (HC.out trivial _ _ _ (H2.out.below (by go_grown)) (hl4.below (by go_grown))).mono ?_); rintro _ u5 ⟨rfl, hb⟩)
      have hz := hb.size
      (try simp only [World.size_alloc, World.size_setCell, World.size_drew] at hz)
      have hB' : Below u4.heap.size u4 u5 := by
          refine kb ?_ hb
          go_grown
      clear hB hsz
      clear hb hz
      have hB := hB'; clear hB'
      have hsz := hB.size
      go_wp2_with fail
      ((with_reducible refine (HU.out trivial _ (hl4.below hB) (hE4.below hB)).mono ?_); rintro _ u6 ⟨v3, rfl, hown3, hb⟩)
      have hs_u6 := Lib.hid hb
      have hz := hb.size
      (try simp only [World.size_alloc, World.size_setCell, World.size_drew] at hz)
      have hB' : Below u4.heap.size u4 u6 := by
          refine kb ?_ hb
          go_grown
      clear hB hsz
      clear hb hz
      have hB := hB'; clear hB'
      have hsz := hB.size
      have H3 := Lib.hid (holds_own hown3)
      clear hown3 hs_u6
      by_cases hz : c'.length = 0
      · have z1 : ((c'.length : Int) == 0) = true := by rw [hz]; rfl
        clear hz
        go_wp2_with fail
        ((with_reducible refine (HA.out _ (hl4.below hB)).mono ?_); rintro _ u7 ⟨rfl, hb⟩)
        have hz := hb.size
        (try simp only [World.size_alloc, World.size_setCell, World.size_drew] at hz)
        have hB' : Below u4.heap.size u4 u7 := by
            refine kb ?_ hb
            go_grown
        clear hB hsz
        clear hb hz
        have hB := hB'; clear hB'
        have hsz := hB.size
        go_wp2
        go_ret
        exact ⟨rfl, hBw.out.trans (Below.mono (by go_grown : Below u4.heap.size u4 _) hsz4)⟩
      · have z1 : ((c'.length : Int) == 0) = false := by rw [beq_eq_false_iff_ne]; omega
        have z2 : ((l.length : Int) == (l.length : Int)) = true := by simp
        clear hz
        go_wp2_with fail
        have hS := same_c _ _ c' c' u6 (H2.out.holds.below hB) H3.out h3'.out
        rw [show (c' == c') = true from by simp] at hS
        ((with_reducible refine (hS).mono ?_); rintro _ u7 ⟨rfl, hb⟩)
        have hz := hb.size
        (try simp only [World.size_alloc, World.size_setCell, World.size_drew] at hz)
        have hB' : Below u4.heap.size u4 u7 := by
            refine kb ?_ hb
            go_grown
        clear hB hsz
        clear hb hz
        have hB := hB'; clear hB'
        have hsz := hB.size
        clear hS H3
        go_wp2_with fail
        ((with_reducible refine (HA.out _ (hl4.below hB)).mono ?_); rintro _ u8 ⟨rfl, hb⟩)
        have hz := hb.size
        (try simp only [World.size_alloc, World.size_setCell, World.size_drew] at hz)
        have hB' : Below u4.heap.size u4 u8 := by
            refine kb ?_ hb
            go_grown
        clear hB hsz
        clear hb hz
        have hB := hB'; clear hB'
        have hsz := hB.size
        go_wp2
        go_ret
        exact ⟨rfl, hBw.out.trans (Below.mono (by go_grown : Below u4.heap.size u4 _) hsz4)⟩
    · have f1 : (f != 0) = true := by simp [bne, hf]
      obtain rfl := HN.out hf
      clear hf
      go_wp2_with fail
      ((with_reducible refine (HA.out _ (hl4.below (Below.refl _ _))).mono ?_); rintro _ u5 ⟨rfl, hb⟩)
      have hz := hb.size
      (try simp only [World.size_alloc, World.size_setCell, World.size_drew] at hz)
      have hB' : Below w.heap.size w u5 := by
          refine kb ?_ hb
          go_grown
      clear hB hsz
      clear hb hz
      have hB := hB'; clear hB'
      have hsz := hB.size
      go_wp2
      go_ret
      exact ⟨rfl, by go_grown⟩
theorem whole_walk (l : List Int) (hbs : ∀ x ∈ l, 0 ≤ x ∧ x < 256) (v : Value) (s : List UInt8) (hs0 : s.length ≤ 9223372036854775807) (a : Int) (ha : -9223372036854775808 ≤ a ∧ a ≤ 9223372036854775807) (w : World) (hv : HoldsC w v l) (hl : Laid w) (hE : LaidE w) :
    Calls Tryd.prog 7 #[v, .string (txB s), .int .i64 a] w (LawEnd w) := by
  obtain ⟨p, c, rfl⟩ : ∃ p c, v = .slice p l.length c := by
    rcases hv.1 with ⟨h1, h2⟩ | ⟨g, go, cap, h1, _⟩
    · exact ⟨none, 0, by rw [h1, h2]; rfl⟩
    · exact ⟨_, _, h1⟩
  by_cases h : 200 < l.length ∨ 300 < (txB s).size
  · exact whole_long p l.length c _ a h w hl
  · rw [txB_size] at h
    have hsum := lines_sum s
    have hlen := asm_len a (linesL s) [] 1
    have hbyte := asm_byte a (linesL s) [] 1 (fun y hy => by cases hy)
    have hnil := asm_nil a (linesL s) [] 1
    have hls : ∀ m : List Int, (∀ x ∈ m, 0 ≤ x ∧ x < 256) → m.length ≤ 3000 → (listD m a).2.2 = 0 → ∀ W, Laid W → LaidE W → Calls Tryd.prog 23 #[.string (txB (listD m a).1), .int .i64 a] W (AsmEnd W (m, 0, 0)) := fun m hm hm3 h0 W hl hE => by
      have h1 := list_len m hm a m.length 0 (Nat.zero_le _)
      have h2 := asmp_c (listD m a).1 (by unfold listD; omega) a ha W hl hE
      rw [show asmR (linesL (listD m a).1) a [] 1 = (m, 0, 0) from asm_list m hm a m.length 0 1 (Nat.zero_le _) (by omega) h0] at h2
      exact h2
    have hS := fun W hl hE => asmp_c s (by omega) a ha W hl hE
    have hz := asm_zero a (linesL s) [] 1
    have hli := list_asm a (asmR (linesL s) a [] 1).1 (linesL s) [] 1
    generalize asmR (linesL s) a [] 1 = r at *
    obtain ⟨c', i1, f⟩ := r
    dsimp only at hlen hbyte hnil hz hli
    have hc3 : c'.length ≤ 3000 := by simp only [List.length_nil] at hlen; omega
    have hg : f = 0 → (listD c' a).2.2 = 0 := fun h0 => (hli (by rw [hz h0, h0])).2 c'.length (by simp)
    refine whole_short l c' p c (txB (listD l a).1) (txB s) (txB (listD c' a).1) a (listD l a).2.1 (listD l a).2.2 i1 f (listD c' a).2.1 (by omega) (by rw [txB_size]; omega) (by omega)
      (fun W hv hl => listp_c l hbs p c a ha (by omega) W hv hl) (fun h0 => hls l hbs (by omega) h0) hS hnil (fun h0 p c W hv hl => ?_) (fun h0 => hls c' hbyte hc3 (hg h0)) w hv hl hE
    have h1 := listp_c c' hbyte p c a ha (by omega) W hv hl
    rw [hg h0] at h1
    exact h1
end Go.Proofs.YtpjpoopgafcedaaDoor
