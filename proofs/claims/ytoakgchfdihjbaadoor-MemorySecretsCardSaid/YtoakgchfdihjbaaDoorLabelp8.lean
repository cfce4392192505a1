/-
  The program: Label.
-/
import Derived.Test.YtoakgchfdihjbaaDoorLoadp8
set_option linter.unusedSimpArgs false
set_option linter.unusedVariables false
namespace Go.Proofs.YtoakgchfdihjbaaDoor
open Go.RowKit Go.PlainAid

theorem labelM_snoc (k : Nat) (M : Int → Int × Int) (a t : Int) : labelM (k + 1) M a t = setM (labelM k M a t) (a + (k : Int)) ((labelM k M a t (a + (k : Int))).1, t) := by
  funext x
  unfold setM
  rw [labelM_at, labelM_at, labelM_at]
  by_cases e : x = a + (k : Int)
  · subst e
    rw [if_pos rfl, if_pos (by omega), if_neg (by omega)]
  · rw [if_neg e]
    by_cases hx : a ≤ x ∧ x < a + (k : Int)
    · rw [if_pos hx, if_pos (by omega)]
    · rw [if_neg hx, if_neg (by omega)]
def labelMp (M : Int → Int × Int) (f t tt : Int) : Int × (Int → Int × Int) := if onlyB f t = true then (0, labelM (t - f + 1).toNat M f tt) else (10, M)
set_option maxRecDepth 100000 in
theorem labeln_c (f t tt : Int) (w : World) : Calls Tryd.prog 23 #[.pointer none, .int .i64 f, .int .i64 t, .int .u8 tt] w fun e w' => e = .returned (.int .i64 2) ∧ Below w.heap.size w w' := by
  go_enter Tryd.func23, Tryd.ntmps23
  go_wp2
  go_ret
  exact ⟨rfl, by go_grown⟩
set_option maxRecDepth 100000 in
set_option maxHeartbeats 2000000 in
theorem labelp_c (M : Int → Int × Int) (f t tt : Int) (mb bb : Nat) (w : World) (hP : Pm mb bb w M) (hL : Laid w) :
    Calls Tryd.prog 23 #[.pointer (some ⟨mb, 0, none⟩), .int .i64 f, .int .i64 t, .int .u8 tt] w (MemEnd mb bb w (labelMp M f t tt).1 (labelMp M f t tt).2) := by
  obtain ⟨R, hR⟩ : ∃ R, labelMp M f t tt = R := ⟨_, rfl⟩
  rw [hR]
  have HR := Lib.hid hR
  clear hR
  unfold labelMp at HR
  have HP := Lib.hid hP
  have hm_0 := hP.c0
  have hmw : mb < w.heap.size := klt hm_0
  have hbw := hP.lt
  have HK := Lib.hid (fun W (hb : Below w.heap.size w W) => onep_c f t W (hL.below hb))
  have HA := Lib.hid (show onlyB f t = true → 0 ≤ f ∧ f ≤ t ∧ t < 65536 from onlyB_real)
  obtain ⟨O, hO⟩ : ∃ O, onlyB f t = O := ⟨_, rfl⟩
  rw [hO] at HR HA HK
  clear hP hO
  go_enter Tryd.func23, Tryd.ntmps23
  go_wp2_with fail
  ((with_reducible refine (HK.out _ (by go_grown)).mono ?_); rintro _ u1 ⟨rfl, hb⟩)
  have T : u1.cell? ⟨mb, 0, none⟩ = some (.pointer (some ⟨bb, 0, none⟩)) := by
      refine kc hb ?_ <;> (go_simp; first | done | rfl)
  have hz := hb.size
  (try simp only [World.size_alloc, World.size_setCell, World.size_drew] at hz)
  have L : mb < u1.heap.size := by omega
  have hB' : Below w.heap.size w u1 := by
      refine kb ?_ hb
      go_grown
  clear hb hz
  have hm_0 := T; clear T
  have hlm := L; clear L
  obtain ⟨hnm0, hnm1, hkm1, hnm2, hkm2⟩ := ap0 hlm
  have hB := hB'; clear hB'
  have hsz := hB.size
  cases O
  · have HF := Lib.hid (show R = (10, M) from by rw [← HR.out]; rfl)
    go_wp2
    go_ret
    exact memEnd_same HF.out HP.out hB
  · have HF := Lib.hid (show R = (0, labelM (t - f + 1).toNat M f tt) from by rw [← HR.out]; rfl)
    obtain ⟨hf0, hft, ht6⟩ := HA.out rfl
    obtain ⟨N, hN⟩ : ∃ N, (t - f + 1).toNat = N := ⟨_, rfl⟩
    obtain rfl : t = f + (N : Int) - 1 := by omega
    rw [hN] at HF
    have HAA := Lib.hid (And.intro hf0 (And.intro hft ht6))
    have HPd := Lib.hid (HP.out.below hB)
    have HBd := Lib.hid (show w.grownBy u1 (some bb) from grown_below hB)
    clear hN hf0 hft ht6 HR HA HK
    go_wp2_with fail
    go_loopw [9] (fun s9 wr => ∃ k : Nat, k ≤ N ∧ s9 = .int .i64 (f + (k : Int)) ∧ Hid (Pm mb bb wr (labelM k M f tt)) ∧ Hid (w.grownBy wr (some bb))) (fun i _ => (f + (N : Int) - intOf i).toNat)
    case atStart => exact ⟨0, Nat.zero_le _, by simp, Lib.hid HPd.out, HBd⟩
    case round =>
      obtain ⟨k, hk, rfl, HPr, HGr⟩ := hrel
      clear hB hsz hlm hnm0 hnm1 hkm1 hnm2 hkm2 hm_0
      by_cases hlt2 : k < N
      · have hd : decide (f + (k : Int) ≤ f + (N : Int) - 1) = true := decide_eq_true (by omega)
        obtain ⟨j, hj⟩ : ∃ j : Nat, f + (k : Int) = (j : Int) := ⟨(f + (k : Int)).toNat, by have := HAA.out; omega⟩
        have hj6 : j < 65536 := by have := HAA.out; omega
        have HS := Lib.hid (show labelM (k + 1) M f tt = setM (labelM k M f tt) (j : Int) ((labelM k M f tt (j : Int)).1, tt) from by rw [labelM_snoc, hj])
        have hw1 : IntKind.i64.wrap ((j : Int) + 1) = (j : Int) + 1 := IntWalk.i64_in _ (by omega)
        have hin2 : (0 : Int) ≤ (j : Int) ∧ (j : Int) < 65536 := by omega
        have HJ := Lib.hid hj
        have hmr_0 := HPr.out.c0
        have y1 := HPr.out.at1 j hj6
        have z1 := HPr.out.free (j * 2 + 1)
        have hbr := HPr.out.lt
        rw [hj] at hd ⊢
        clear hj
        go_wp2
        go_roundw
        case rel => exact ⟨k + 1, by omega, by have := HJ.out; congr 1; omega, Lib.hid (by rw [HS.out]; exact HPr.out.set1 j hj6 tt), Lib.hid (grown_set HGr.out)⟩
        case measure => have := HJ.out; simp [intOf] <;> omega
      · have hkm : k = N := by omega
        have hd : decide (f + (k : Int) ≤ f + (N : Int) - 1) = false := decide_eq_false (by omega)
        have HFIN := Lib.hid (show Pm mb bb wr (labelM N M f tt) from by have := HPr.out; rw [hkm] at this; exact this)
        go_wp2
        go_ret
        have hf := HF.out
        subst hf
        exact ⟨rfl, HGr.out, HFIN.out⟩
end Go.Proofs.YtoakgchfdihjbaaDoor
