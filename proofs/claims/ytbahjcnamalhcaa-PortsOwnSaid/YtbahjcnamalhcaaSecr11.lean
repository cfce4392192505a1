/-
  The program's secrets: bytes made secret.
-/
import Derived.Test.YtbahjcnamalhcaaClone11
import Derived.Deep.LoopGhost
set_option linter.unusedSimpArgs false
set_option linter.unusedVariables false
namespace Go.Proofs.Ytbahjcnamalhcaa
open Go.RowKit Go.PlainAid

theorem set2_take (xs : List Value) (m : Nat) (h : m + 1 < xs.length) (a b : Value) : ((xs.set m a).set (m + 1) b).take (m + 2) = xs.take m ++ [a, b] := by
  apply List.ext_getElem?
  intro j
  rw [List.getElem?_take, List.getElem?_append, List.length_take, Nat.min_eq_left (by omega), List.getElem?_take]
  by_cases h1 : j < m
  · rw [if_pos (by omega), if_pos h1, if_pos h1, List.getElem?_set_ne (by omega), List.getElem?_set_ne (by omega)]
  · rw [if_neg h1]
    by_cases h2 : j = m
    · subst h2
      rw [if_pos (by omega), List.getElem?_set_ne (by omega), List.getElem?_set_self (by omega), Nat.sub_self]
      rfl
    · by_cases h3 : j = m + 1
      · subst h3
        rw [if_pos (by omega), List.getElem?_set_self (by rw [List.length_set]; omega), show m + 1 - m = 1 by omega]
        rfl
      · rw [if_neg (by omega), List.getElem?_eq_none (by simp; omega)]
theorem secT_take (l : List Int) (k : Nat) (h : k < l.length) : (secT (l.take (k + 1))).flatMap kE = (secT (l.take k)).flatMap kE ++ [.int .u8 l[k], .int .u8 255] := by
  unfold secT
  rw [← List.take_append_getElem h, List.map_append, List.flatMap_append]
  rfl
set_option maxRecDepth 100000 in
set_option maxHeartbeats 2000000 in
theorem secrets_c (l : List Int) (hl : l.length ≤ 65536) (v : Value) (w : World) (hv : HoldsW bE 1 w v l) :
    Calls Try.prog 22 #[v] w fun e w' => ∃ v', e = .returned v' ∧ w'.ownsRow w.heap.size 40 2 v' (secT l).length ((secT l).flatMap kE) ∧ Below w.heap.size w w' := by
  obtain ⟨p, c, rfl⟩ := hv.form
  have H1 := Lib.hid hv
  rw [secT_len]
  obtain ⟨n, hn⟩ : ∃ n, l.length = n := ⟨_, rfl⟩
  rw [hn] at hl ⊢
  have HN := Lib.hid hn
  have HB := Lib.hid (Below.refl w.heap.size w)
  clear hv hn
  obtain ⟨i0, hi, hz0, hz1, hz2⟩ := info_parts Try.infoBy
  go_enter Try.func22, Try.ntmps22
  go_wp2_with (at_make; refine wpList_make_full _ rfl _ _ 33 rfl w.heap.size 40 i0 (.agg #[.int .u8 0, .int .u8 0]) 2 Try.underlying33 hi hz0 hz1 _ _ _ _ n rfl rfl rfl rfl ?b2 ?b3 (Nat.le_refl _) ?_)
  case b2 => rw [hz2]; omega
  case b3 => unfold maxLen; omega
  intro w1 hown hg
  have HO := Lib.hid hown
  have HB1 := Lib.hid (Below.grown (Below.refl w.heap.size w) hg (Nat.le_refl _) (fun k hk => by cases hk))
  have hz1' := ((hown.lt w.heap.size rfl)).2
  clear hown hg
  go_wp2_with fail
  go_loopg [11] n (fun kx s11 wr => ∃ k : Nat, s11 = .int .i64 k ∧ k ≤ n ∧ n - k ≤ kx ∧ Hid (Below w.heap.size w wr ∧ ∃ xs, wr.ownsRow w.heap.size 40 2 (.slice (some ⟨w.heap.size, 0, none⟩) n n) n xs ∧ xs.take (k * 2) = (secT (l.take k)).flatMap kE))
  case atStart => exact ⟨0, by simp, Nat.zero_le _, by omega, Lib.hid ⟨HB1.out, _, HO.out, by simp [secT]⟩⟩
  case round =>
    obtain ⟨k, rfl, hk, hkx, HR⟩ := hrel
    by_cases hlt : k < n
    · have hkl : k < l.length := by have := HN.out; omega
      obtain ⟨g1, o1, cap1, e1, _, hc1⟩ := H1.out.some (by omega)
      obtain ⟨rfl, -, rfl⟩ := Value.slice.inj e1
      have x1 := hc1 k _ (List.getElem?_eq_getElem hkl) 0 _ rfl
      rw [Nat.mul_one, Nat.add_zero] at x1
      obtain ⟨hB, xs, hown, htk⟩ := HR.out
      have htk2 := secT_take l k hkl
      have hxl : xs.length = n * 2 := hown.1
      obtain ⟨X, hX⟩ : ∃ X, l[k] = X := ⟨_, rfl⟩
      rw [hX] at x1 htk2
      have hg1 := klt x1
      have x1 := kc hB x1
      have hl1 := klt x1
      have hne1 : ¬ g1 = w.heap.size := by omega
      have y0 := hown.cellAt (k * 2) (by omega)
      have y1 := hown.cellAt (k * 2 + 1) (by omega)
      rw [List.getElem?_eq_getElem (by omega)] at y0 y1
      have z0 := hown.frozenAt (k * 2)
      have z1 := hown.frozenAt (k * 2 + 1)
      have hlw := klt y0
      generalize xs[k * 2] = Y0 at *
      generalize xs[k * 2 + 1] = Y1 at *
      have HS := Lib.hid (show Below w.heap.size w ((wr.setCell ⟨w.heap.size, k * 2, none⟩ (.int .u8 X)).setCell ⟨w.heap.size, k * 2 + 1, none⟩ (.int .u8 255)) ∧ ∃ xs, ((wr.setCell ⟨w.heap.size, k * 2, none⟩ (.int .u8 X)).setCell ⟨w.heap.size, k * 2 + 1, none⟩ (.int .u8 255)).ownsRow w.heap.size 40 2 (.slice (some ⟨w.heap.size, 0, none⟩) n n) n xs ∧ xs.take ((k + 1) * 2) = (secT (l.take (k + 1))).flatMap kE from by
        have s1 := hown.stored (k * 2) (.int .u8 X)
        have s2 := s1.1.stored (k * 2 + 1) (.int .u8 255)
        refine ⟨Below.grown hB (s1.2.trans s2.2) (by omega) (fun j hj => by cases hj; exact Nat.le_refl _), _, s2.1, ?_⟩
        rw [show (k + 1) * 2 = k * 2 + 2 by omega, set2_take _ _ (by omega), htk, htk2])
      have hin : (0 : Int) ≤ (k : Int) ∧ (k : Int) < (n : Int) := by omega
      clear e1 hc1 hkl hB hown htk htk2 hxl hX HR
      go_wp2_with fail
      go_roundg (n - (k + 1))
      case measure => omega
      case rel => exact ⟨k + 1, by go_num, by omega, by omega, HS⟩
    · have hge : (n : Int) ≤ (k : Int) := by omega
      obtain rfl : k = n := by omega
      go_wp2
      go_ret
      obtain ⟨hB, xs, hown, htk⟩ := HR.out
      have hxl : xs.length = k * 2 := hown.1
      rw [← hxl, List.take_length, ← HN.out, List.take_length] at htk
      subst htk
      exact ⟨_, rfl, hown, hB⟩
end Go.Proofs.Ytbahjcnamalhcaa
