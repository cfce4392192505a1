/-
  The document: the bits of an address.
-/
import Derived.Test.YtcilnbkmaoneaaaCheckEq9
import Derived.Test.YtcilnbkmaoneaaaIs9
import Derived.Test.YtcilnbkmaoneaaaRise9
set_option linter.unusedSimpArgs false
set_option linter.unusedVariables false
namespace Go.Proofs.Ytcilnbkmaoneaaa
open Go.RowKit Go.PlainAid

set_option maxRecDepth 100000 in
set_option maxHeartbeats 1000000 in
theorem bitsr_c (l : List Sp) (hl : l.length ≤ 100000) (hb : ∀ x ∈ l, 0 ≤ x.b ∧ x.b ≤ 255) (a : Int) (v : Value) (w : World) (hv : HoldsD w v l) :
    Calls Try.prog 12 #[v, .int .i64 a] w fun e w' => e = .returned (.int .u8 (bitsR l a)) ∧ Below w.heap.size w w' := by
  obtain ⟨p, c, rfl⟩ := hv.form
  obtain ⟨R, hR⟩ : ∃ R, bitsR l a = R := ⟨_, rfl⟩
  rw [hR]
  obtain ⟨n, hn⟩ : ∃ n, l.length = n := ⟨_, rfl⟩
  rw [hn] at hv hl ⊢
  have HV := Lib.hid hv
  have HN := Lib.hid hn
  have HB := Lib.hid hb
  have HR := Lib.hid hR
  clear hv hn hb hR
  go_enter Try.func12, Try.ntmps12
  go_wp2_with fail
  go_loopw [5] (fun s3 wr => ∃ k : Nat, k ≤ n ∧ s3 = .int .i64 k ∧ Hid (bitsR (l.drop k) a = R) ∧ Below w.heap.size w wr) (fun i _ => n - (intOf i).toNat)
  case atStart => exact ⟨0, Nat.zero_le _, rfl, Lib.hid (by rw [List.drop_zero]; exact HR.out), Below.refl _ _⟩
  case round =>
    obtain ⟨k, hk, rfl, HK, hB⟩ := hrel
    by_cases hlt : k < n
    · have hd : decide ((k : Int) < (n : Int)) = true := decide_eq_true (by omega)
      have hlk : k < l.length := by rw [HN.out]; exact hlt
      have hin : (0 : Int) ≤ (k : Int) ∧ (k : Int) < (n : Int) := by omega
      have hw1 : IntKind.i64.wrap ((k : Int) + 1) = (k : Int) + 1 := IntWalk.i64_in _ (by omega)
      obtain ⟨g, o, cap, e1, hcap, hcc⟩ := HV.out.some (by omega)
      obtain ⟨rfl, n1, rfl⟩ := Value.slice.inj e1
      clear e1 n1
      obtain ⟨x0, x1, x2⟩ := get3d hcc (List.getElem?_eq_getElem hlk)
      have hst := HK.out
      rw [List.drop_eq_getElem_cons hlk, bitsR] at hst
      have hby := HB.out l[k] (List.getElem_mem hlk)
      generalize l[k] = x at *
      obtain ⟨xf, xt, xb⟩ := x
      dsimp only at x0 x1 x2 hst hby
      unfold onB at hst
      dsimp only at hst
      have x0 := kc hB x0
      have x1 := kc hB x1
      have x2 := kc hB x2
      have hwb : IntKind.u8.wrap xb = xb := by
        show xb % 256 = xb
        omega
      have HST := Lib.hid hst
      clear hcc hst hby HK
      by_cases c1 : xf ≤ a
      · have d1 : decide (xf ≤ a) = true := decide_eq_true c1
        by_cases c2 : a ≤ xt
        · have d2 : decide (a ≤ xt) = true := decide_eq_true c2
          have HF := Lib.hid (show R = xb from by have h := HST.out; rw [d1, d2, Bool.true_and, if_pos (by rfl)] at h; exact h.symm)
          clear HST
          go_wp2
          go_ret
          exact ⟨by rw [HF.out]; rfl, hB⟩
        · have d2 : decide (a ≤ xt) = false := decide_eq_false c2
          have HF := Lib.hid (show bitsR (l.drop (k + 1)) a = R from by have h := HST.out; rw [d1, d2, if_neg (by simp)] at h; exact h)
          clear HST
          go_wp2
          go_roundw
          case rel => exact ⟨k + 1, by omega, by go_num, HF, hB⟩
          case measure => simp [intOf] <;> omega
      · have d1 : decide (xf ≤ a) = false := decide_eq_false c1
        have HF := Lib.hid (show bitsR (l.drop (k + 1)) a = R from by have h := HST.out; rw [d1, Bool.false_and, if_neg (by simp)] at h; exact h)
        clear HST
        go_wp2
        go_roundw
        case rel => exact ⟨k + 1, by omega, by go_num, HF, hB⟩
        case measure => simp [intOf] <;> omega
    · have hd : decide ((k : Int) < (n : Int)) = false := decide_eq_false (by omega)
      have HF := Lib.hid (show R = 0 from by have h := HK.out; rw [List.drop_eq_nil_of_le (by have := HN.out; omega)] at h; exact h.symm)
      clear HK
      go_wp2
      go_ret
      exact ⟨by rw [HF.out]; rfl, hB⟩
end Go.Proofs.Ytcilnbkmaoneaaa
