/-
  The program's Low, where two ports are the same but for what is secret.
-/
import Derived.Test.YtbahjcnamalhcaaClonep11
set_option linter.unusedSimpArgs false
set_option linter.unusedVariables false
namespace Go.Proofs.Ytbahjcnamalhcaa
open Go.RowKit Go.PlainAid

def alikeB (a b : Int × Int) : Prop := a.2 = b.2 ∧ bits .andNot .u8 a.1 a.2 = bits .andNot .u8 b.1 b.2
/-- Rows of bytes that are the same but for secrets. -/
structure AlikeL (l m : List (Int × Int)) : Prop where
  len : l.length = m.length
  at_ : ∀ (j : Nat) (a b : Int × Int), l[j]? = some a → m[j]? = some b → alikeB a b
theorem alikeL_refl (l : List (Int × Int)) : AlikeL l l := ⟨rfl, fun j a b h1 h2 => by obtain rfl := Option.some.inj (h1.symm.trans h2); exact ⟨rfl, rfl⟩⟩
set_option maxRecDepth 100000 in
theorem alike_c (a b : Int × Int) (h : alikeB a b) (w : World) : Calls Try.prog 31 #[.agg #[.int .u8 a.1, .int .u8 a.2], .agg #[.int .u8 b.1, .int .u8 b.2]] w fun e w' => e = .returned (.bool true) ∧ Below w.heap.size w w' := by
  obtain ⟨a1, a2⟩ := a
  obtain ⟨b1, b2⟩ := b
  obtain ⟨h1, h2⟩ := h
  dsimp only at h1 h2
  subst h1
  dsimp only
  generalize hx : bits .andNot .u8 a1 a2 = X at *
  have hy := h2.symm
  clear h2
  go_enter Try.func31, Try.ntmps31
  go_wp2
  go_ret
  exact ⟨rfl, by go_grown⟩
set_option maxRecDepth 100000 in
set_option maxHeartbeats 2000000 in
theorem equal_b (l : List (Int)) (hl : l.length ≤ 100000) (v1 v2 : Value) (w : World) (h1 : HoldsW bE 1 w v1 l) (h2 : HoldsW bE 1 w v2 l) :
    Calls Try.prog 29 #[v1, v2] w fun e w' => e = .returned (.bool true) ∧ Below w.heap.size w w' := by
  obtain ⟨p1, c1, rfl⟩ := h1.form
  obtain ⟨p2, c2, rfl⟩ := h2.form
  have H1 := Lib.hid h1
  have H2 := Lib.hid h2
  obtain ⟨n, hn⟩ : ∃ n, l.length = n := ⟨_, rfl⟩
  rw [hn] at hl ⊢
  have HN := Lib.hid hn
  have HB := Lib.hid (Below.refl w.heap.size w)
  clear h1 h2 hn
  go_enter Try.func29, Try.ntmps29
  go_wp2_with fail
  go_loopg [13] n (fun kx s5 wr => ∃ k : Nat, s5 = .int .i64 k ∧ k ≤ n ∧ n - k ≤ kx ∧ Hid (Below w.heap.size w wr))
  case atStart => exact ⟨0, by simp, Nat.zero_le _, by omega, HB⟩
  case round =>
    obtain ⟨k, rfl, hk, hkx, HBr⟩ := hrel
    by_cases hlt : k < n
    · have hkl : k < l.length := by have := HN.out; omega
      obtain ⟨g1, o1, cap1, e1, _, hc1⟩ := H1.out.some (by omega)
      obtain ⟨g2, o2, cap2, e2, _, hc2⟩ := H2.out.some (by omega)
      obtain ⟨rfl, -, rfl⟩ := Value.slice.inj e1
      obtain ⟨rfl, -, rfl⟩ := Value.slice.inj e2
      have x1 := hc1 k _ (List.getElem?_eq_getElem hkl) 0 _ rfl
      have x2 := hc2 k _ (List.getElem?_eq_getElem hkl) 0 _ rfl
      rw [Nat.mul_one, Nat.add_zero] at x1 x2
      generalize l[k] = X at *
      have hg1 := klt x1
      have hg2 := klt x2
      have hB := HBr.out
      have hin : (0 : Int) ≤ (k : Int) ∧ (k : Int) < (n : Int) := by omega
      clear e1 e2 hc1 hc2 hkl
      have hp_0 := kc hB x1
      have hq_0 := kc hB x2
      clear x1 x2
      clear hB
      have hB := HBr.out
      have hl1 := klt hp_0
      have hl2 := klt hq_0
      go_wp2_with fail
      refine wp_region_plan (fun w' => w'.cell? ⟨g1, o1 + k, none⟩ = some (.int .u8 X) ∧ w'.cell? ⟨g2, o2 + k, none⟩ = some (.int .u8 X) ∧ Below w.heap.size w w') (by kernel_rfl) (by kernel_rfl) (by kernel_rfl) ?_ ?_
      · (try dsimp only)
        refine ⟨?_, ?_, ?_⟩ <;> first | (go_simp; done) | (simp [*]; done) | go_grown
      repeat (first
        | (refine Plan.val (v := ?_) ?_ ?_ ?_; rotate_left; (· rfl); (· (intro W hSw; (try dsimp only at hSw); go_simp; all_goals (first | (with_reducible rfl) | (constructor <;> (with_reducible rfl)) | (rw [if_neg (by omega)]; done) | (rw [if_neg (by omega)]; with_reducible rfl)))); (try simp only [Act.put, List.setIfInBounds_toArray, List.set_cons_zero, List.set_cons_succ]))
        | (refine Plan.no ?_ ?_; (· rfl); (try simp only [Act.put, List.setIfInBounds_toArray, List.set_cons_zero, List.set_cons_succ])))
      refine Plan.done ?_
      intro u T
      (try dsimp only at T)
      obtain ⟨hp_0, hq_0, hB⟩ := T
      have hsz := hB.size
      have hlp := klt hp_0
      have hlq := klt hq_0
      obtain ⟨hnp0, hnp1, hkp1, hnp2, hkp2⟩ := ap0 hlp
      obtain ⟨hnq0, hnq1, hkq1, hnq2, hkq2⟩ := ap0 hlq
      have HB2 := Lib.hid hB
      go_wp2
      go_roundg (n - (k + 1))
      case measure => omega
      case rel => exact ⟨k + 1, by go_num, by omega, by omega, HB2⟩
    · have hge : (n : Int) ≤ (k : Int) := by omega
      go_wp2
      go_ret
      exact ⟨rfl, HBr.out⟩
set_option maxRecDepth 100000 in
set_option maxHeartbeats 2000000 in
theorem equal_e (l : List (Int × Int)) (hl : l.length ≤ 100000) (v1 v2 : Value) (w : World) (h1 : HoldsW eE 2 w v1 l) (h2 : HoldsW eE 2 w v2 l) :
    Calls Try.prog 32 #[v1, v2] w fun e w' => e = .returned (.bool true) ∧ Below w.heap.size w w' := by
  obtain ⟨p1, c1, rfl⟩ := h1.form
  obtain ⟨p2, c2, rfl⟩ := h2.form
  have H1 := Lib.hid h1
  have H2 := Lib.hid h2
  obtain ⟨n, hn⟩ : ∃ n, l.length = n := ⟨_, rfl⟩
  rw [hn] at hl ⊢
  have HN := Lib.hid hn
  have HB := Lib.hid (Below.refl w.heap.size w)
  clear h1 h2 hn
  go_enter Try.func32, Try.ntmps32
  go_wp2_with fail
  go_loopg [13] n (fun kx s5 wr => ∃ k : Nat, s5 = .int .i64 k ∧ k ≤ n ∧ n - k ≤ kx ∧ Hid (Below w.heap.size w wr))
  case atStart => exact ⟨0, by simp, Nat.zero_le _, by omega, HB⟩
  case round =>
    obtain ⟨k, rfl, hk, hkx, HBr⟩ := hrel
    by_cases hlt : k < n
    · have hkl : k < l.length := by have := HN.out; omega
      obtain ⟨g1, o1, cap1, e1, _, hc1⟩ := H1.out.some (by omega)
      obtain ⟨g2, o2, cap2, e2, _, hc2⟩ := H2.out.some (by omega)
      obtain ⟨rfl, -, rfl⟩ := Value.slice.inj e1
      obtain ⟨rfl, -, rfl⟩ := Value.slice.inj e2
      have x1 := hc1 k _ (List.getElem?_eq_getElem hkl) 0 _ rfl
      have x2 := hc2 k _ (List.getElem?_eq_getElem hkl) 0 _ rfl
      have y1 := hc1 k _ (List.getElem?_eq_getElem hkl) 1 _ rfl
      have y2 := hc2 k _ (List.getElem?_eq_getElem hkl) 1 _ rfl
      rw [Nat.add_zero] at x1 x2
      obtain ⟨X, hX⟩ : ∃ X, l[k] = X := ⟨_, rfl⟩
      rw [hX] at x1 x2 y1 y2
      obtain ⟨X, Y⟩ := X
      dsimp only at x1 x2 y1 y2
      clear hX
      have hg1 := klt x1
      have hg2 := klt x2
      have hB := HBr.out
      have hin : (0 : Int) ≤ (k : Int) ∧ (k : Int) < (n : Int) := by omega
      clear e1 e2 hc1 hc2 hkl
      have hp_0 := kc hB x1
      have hq_0 := kc hB x2
      have hp_1 := kc hB y1
      have hq_1 := kc hB y2
      clear x1 x2 y1 y2
      clear hB
      have hB := HBr.out
      have hl1 := klt hp_0
      have hl2 := klt hq_0
      go_wp2_with fail
      refine wp_region_plan (fun w' => w'.cell? ⟨g1, o1 + k * 2, none⟩ = some (.int .i64 X) ∧ w'.cell? ⟨g1, o1 + k * 2 + 1, none⟩ = some (.int .u8 Y) ∧ w'.cell? ⟨g2, o2 + k * 2, none⟩ = some (.int .i64 X) ∧ w'.cell? ⟨g2, o2 + k * 2 + 1, none⟩ = some (.int .u8 Y) ∧ Below w.heap.size w w') (by kernel_rfl) (by kernel_rfl) (by kernel_rfl) ?_ ?_
      · (try dsimp only)
        refine ⟨?_, ?_, ?_, ?_, ?_⟩ <;> first | (go_simp; done) | (simp [*]; done) | go_grown
      repeat (first
        | (refine Plan.val (v := ?_) ?_ ?_ ?_; rotate_left; (· rfl); (· (intro W hSw; (try dsimp only at hSw); go_simp; all_goals (first | (with_reducible rfl) | (constructor <;> (with_reducible rfl)) | (rw [if_neg (by omega)]; done) | (rw [if_neg (by omega)]; with_reducible rfl)))); (try simp only [Act.put, List.setIfInBounds_toArray, List.set_cons_zero, List.set_cons_succ]))
        | (refine Plan.no ?_ ?_; (· rfl); (try simp only [Act.put, List.setIfInBounds_toArray, List.set_cons_zero, List.set_cons_succ])))
      refine Plan.done ?_
      intro u T
      (try dsimp only at T)
      obtain ⟨hp_0, hp_1, hq_0, hq_1, hB⟩ := T
      have hsz := hB.size
      have hlp := klt hp_0
      have hlq := klt hq_0
      obtain ⟨hnp0, hnp1, hkp1, hnp2, hkp2⟩ := ap0 hlp
      obtain ⟨hnq0, hnq1, hkq1, hnq2, hkq2⟩ := ap0 hlq
      have HB2 := Lib.hid hB
      go_wp2
      go_roundg (n - (k + 1))
      case measure => omega
      case rel => exact ⟨k + 1, by go_num, by omega, by omega, HB2⟩
    · have hge : (n : Int) ≤ (k : Int) := by omega
      go_wp2
      go_ret
      exact ⟨rfl, HBr.out⟩
set_option maxRecDepth 100000 in
set_option maxHeartbeats 2000000 in
theorem equalf_k (l m : List (Int × Int)) (hA : AlikeL l m) (hl : l.length ≤ 100000) (v1 v2 : Value) (w : World) (h1 : HoldsW kE 2 w v1 l) (h2 : HoldsW kE 2 w v2 m) :
    Calls Try.prog 30 #[v1, v2, .func (.func 31) #[] #[]] w fun e w' => e = .returned (.bool true) ∧ Below w.heap.size w w' := by
  obtain ⟨p1, c1, rfl⟩ := h1.form
  obtain ⟨p2, c2, rfl⟩ := h2.form
  have H1 := Lib.hid h1
  have H2 := Lib.hid h2
  have HA := Lib.hid hA
  obtain ⟨n, hn⟩ : ∃ n, l.length = n := ⟨_, rfl⟩
  have hm : m.length = n := by rw [← hA.len]; exact hn
  rw [hn] at hl ⊢
  rw [hm]
  have HN := Lib.hid (And.intro hn hm)
  have HB := Lib.hid (Below.refl w.heap.size w)
  clear h1 h2 hn hm hA
  go_enter Try.func30, Try.ntmps30
  go_wp2_with fail
  go_loopg [17] n (fun kx s5 wr => ∃ k : Nat, s5 = .int .i64 k ∧ k ≤ n ∧ n - k ≤ kx ∧ Hid (Below w.heap.size w wr))
  case atStart => exact ⟨0, by simp, Nat.zero_le _, by omega, HB⟩
  case round =>
    obtain ⟨k, rfl, hk, hkx, HBr⟩ := hrel
    by_cases hlt : k < n
    · have hkl : k < l.length := by have := HN.out; omega
      have hkm : k < m.length := by have := HN.out; omega
      obtain ⟨g1, o1, cap1, e1, _, hc1⟩ := H1.out.some (by omega)
      obtain ⟨g2, o2, cap2, e2, _, hc2⟩ := H2.out.some (by omega)
      obtain ⟨rfl, -, rfl⟩ := Value.slice.inj e1
      obtain ⟨rfl, -, rfl⟩ := Value.slice.inj e2
      have x1 := hc1 k _ (List.getElem?_eq_getElem hkl) 0 _ rfl
      have x2 := hc2 k _ (List.getElem?_eq_getElem hkm) 0 _ rfl
      have y1 := hc1 k _ (List.getElem?_eq_getElem hkl) 1 _ rfl
      have y2 := hc2 k _ (List.getElem?_eq_getElem hkm) 1 _ rfl
      have hal := HA.out.at_ k _ _ (List.getElem?_eq_getElem hkl) (List.getElem?_eq_getElem hkm)
      rw [Nat.add_zero] at x1 x2
      generalize l[k] = X at *
      generalize m[k] = Z at *
      have HC := Lib.hid (fun W => alike_c X Z hal W)
      obtain ⟨X, Y⟩ := X
      obtain ⟨Z, V⟩ := Z
      dsimp only at x1 x2 y1 y2 HC
      have hB := HBr.out
      have hsz := hB.size
      have x1 := kc hB x1
      have x2 := kc hB x2
      have y1 := kc hB y1
      have y2 := kc hB y2
      have hl1 := klt x1
      have hl2 := klt x2
      have hin : (0 : Int) ≤ (k : Int) ∧ (k : Int) < (n : Int) := by omega
      obtain ⟨q1, q2, q3, q4, q5⟩ := ap0 hl1
      obtain ⟨q6, q7, q8, q9, q10⟩ := ap0 hl2
      clear e1 e2 hc1 hc2 hkl hkm hal
      go_wp2_with fail
      refine (HC.out _).mono ?_
      rintro _ u ⟨rfl, hb⟩
      have HB2 := Lib.hid (show Below w.heap.size w u from kb (by go_grown) hb)
      clear hb
      go_wp2
      go_roundg (n - (k + 1))
      case measure => omega
      case rel => exact ⟨k + 1, by go_num, by omega, by omega, HB2⟩
    · have hge : (n : Int) ≤ (k : Int) := by omega
      go_wp2
      go_ret
      exact ⟨rfl, HBr.out⟩
end Go.Proofs.Ytbahjcnamalhcaa
