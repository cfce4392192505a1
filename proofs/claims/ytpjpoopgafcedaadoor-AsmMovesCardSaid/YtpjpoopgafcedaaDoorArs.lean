/-
  Layer 5, the program's table: what stands around a number behind a name, and how many digits it has, by modes.
-/
import Derived.Test.YtpjpoopgafcedaaDoorDigs
import Derived.Test.YtpjpoopgafcedaaDoorHeld
set_option linter.unusedSimpArgs false
set_option linter.unusedVariables false
namespace Go.Proofs.YtpjpoopgafcedaaDoor
open Go.RowKit Go.PlainAid

def befP (m : Nat) : List UInt8 := [[], [32, 65], [32, 35, 36], [32, 36], [32, 36], [32, 36], [32, 36], [32, 36], [32, 36], [32, 40, 36], [32, 40, 36], [32, 40, 36], [32, 36]].getD m []
def dgP (m : Nat) : Nat := [0, 0, 2, 2, 2, 2, 4, 4, 4, 2, 2, 4, 4].getD m 0
def aftP (m : Nat) : List UInt8 := [[], [], [], [], [44, 88], [44, 89], [], [44, 88], [44, 89], [44, 88, 41], [41, 44, 89], [41], []].getD m []
/-- One of them: a value of the program's struct. -/
def arV (b : List UInt8) (d : Nat) (a : List UInt8) : Value := .agg #[.string (txB b), .int .i64 d, .string (txB a)]
def arC (m : Nat) : List Value := [.string (txB (befP m)), .int .i64 (dgP m), .string (txB (aftP m))]
def arA : Array Value := ((List.range 13).flatMap arC).toArray
theorem arA_size : arA.size = 39 := by kernel_rfl
theorem arA_at (m j : Nat) (hm : m < 13) (hj : j < 3) : arA[m * 3 + j]? = (arC m)[j]? := by
  have h1 : m = 0 ∨ m = 1 ∨ m = 2 ∨ m = 3 ∨ m = 4 ∨ m = 5 ∨ m = 6 ∨ m = 7 ∨ m = 8 ∨ m = 9 ∨ m = 10 ∨ m = 11 ∨ m = 12 := by omega
  have h2 : j = 0 ∨ j = 1 ∨ j = 2 := by omega
  rcases h1 with rfl | rfl | rfl | rfl | rfl | rfl | rfl | rfl | rfl | rfl | rfl | rfl | rfl <;> rcases h2 with rfl | rfl | rfl <;> rfl
/-- The program's table lies in its variable. -/
def Laid (w : World) : Prop := (∃ t fr, w.heap[0]? = some (.cells arA t fr)) ∧ w.cell? ⟨9, 15, none⟩ = some (.int .u8 4)
theorem Laid.below {w u : World} (h : Laid w) (hb : Below w.heap.size w u) : Laid u := by
  obtain ⟨⟨t, fr, h⟩, h2⟩ := h
  exact ⟨⟨t, fr, (hb.block _ (Array.getElem?_eq_some_iff.1 h).1).trans h⟩, kc hb h2⟩
theorem Laid.at {w : World} (h : Laid w) (m j : Nat) (hm : m < 13) (hj : j < 3) : w.cell? ⟨0, m * 3 + j, none⟩ = (arC m)[j]? := by
  obtain ⟨⟨t, fr, h⟩, _⟩ := h
  rw [← arA_at m j hm hj]; simp [World.cell?, h]
theorem under_ars : Tryd.prog.underlying 63 = some (.array 13 62) := by kernel_rfl
theorem agg_ar (w : World) : (isAgg 62).run Tryd.prog w = .ok true w := by kernel_rfl
theorem size_ar (w : World) : (sizeOf 62).run Tryd.prog w = .ok 3 w := by kernel_rfl
/-- How many numbers there are of so many digits. -/
theorem size_c (b a : List UInt8) (d : Nat) (hd : d ≤ 4) (w : World) : Calls Tryd.prog 50 #[arV b d a] w fun e w' => e = .returned (.int .i64 ((16 ^ d : Nat) : Int)) ∧ Below w.heap.size w w' := by
  unfold arV
  generalize txB b = S
  generalize txB a = T
  go_enter Tryd.func50, Tryd.ntmps50
  go_wp2
  go_loopw [3, 6] (fun n i wr => ∃ k : Nat, k ≤ d ∧ i = .int .i64 k ∧ n = .int .i64 ((16 ^ k : Nat) : Int) ∧ wr.cell? ⟨w.heap.size, 0, none⟩ = some (.string S) ∧ wr.cell? ⟨w.heap.size, 1, none⟩ = some (.int .i64 d) ∧ wr.cell? ⟨w.heap.size, 2, none⟩ = some (.string T) ∧ Below w.heap.size w wr) (fun _ i _ => d - (intOf i).toNat)
  case atStart => exact ⟨0, by omega, rfl, rfl, by go_simp, by go_simp, by go_simp, by go_grown⟩
  case round =>
    obtain ⟨k, hk, rfl, rfl, hrel⟩ := hrel
    obtain ⟨hx_0, hx_1, hx_2, hB⟩ := hrel
    have hsz := hB.size
    have hlx := klt hx_0
    have hnx0 : ¬ (w.heap.size = wr.heap.size) := by omega
    have hnx1 : ¬ (w.heap.size = wr.heap.size + 1) := by omega
    have hkx1 : w.heap.size < wr.heap.size + 1 := by omega
    have hnx2 : ¬ (w.heap.size = wr.heap.size + 1 + 1) := by omega
    have hkx2 : w.heap.size < wr.heap.size + 1 + 1 := by omega
    have hle : 16 ^ k ≤ 16 ^ 4 := Nat.pow_le_pow_right (by omega) (by omega)
    have hp := Lib.hid (show 16 ^ (k + 1) = 16 ^ k * 16 from Nat.pow_succ _ _)
    generalize hN : 16 ^ k = N at *
    by_cases hlt : k < d
    · have hdc : decide ((k : Int) < (d : Int)) = true := decide_eq_true (by omega)
      have hw : IntKind.i64.wrap ((N : Int) * 16) = (N : Int) * 16 := IntWalk.i64_in _ (by omega)
      clear hle
      go_wp2
      go_roundw
      case rel => exact ⟨k + 1, by omega, by go_num, by rw [hp.out]; simp, by go_simp, by go_simp, by go_simp, by go_grown⟩
      case measure => simp [intOf]; omega
    · have : k = d := by omega
      subst this
      have hdc : decide ((k : Int) < (k : Int)) = false := decide_eq_false (by omega)
      go_wp2
      go_ret
      exact ⟨by rw [hN]; rfl, by go_grown⟩
theorem holds_c (b a : List UInt8) (d : Nat) (hd : d ≤ 4) (n : Int) (w : World) : Calls Tryd.prog 42 #[arV b d a, .int .i64 n] w fun e w' => e = .returned (.bool (decide (0 ≤ n) && decide (n < ((16 ^ d : Nat) : Int)))) ∧ Below w.heap.size w w' := by
  have HS := Lib.hid (fun w => size_c b a d hd w)
  unfold arV at *
  generalize txB b = S at *
  generalize txB a = T at *
  generalize 16 ^ d = N at *
  cases h0 : decide (0 ≤ n)
  · go_enter Tryd.func42, Tryd.ntmps42
    go_wp2
    go_ret
    exact ⟨rfl, by go_grown⟩
  · go_enter Tryd.func42, Tryd.ntmps42
    go_wp2_with fail
    ((with_reducible refine (HS.out _).mono ?_); rintro _ u ⟨rfl, hb⟩)
    have T : u.cell? ⟨w.heap.size, 0, none⟩ = some (.string S) ∧ u.cell? ⟨w.heap.size, 1, none⟩ = some (.int .i64 d) ∧ u.cell? ⟨w.heap.size, 2, none⟩ = some (.string T) := by
        refine ⟨?_, ?_, ?_⟩ <;> refine kc hb ?_ <;> (go_simp; first | done | rfl)
    have hz := hb.size
    (try simp only [World.size_alloc, World.size_setCell, World.size_drew] at hz)
    have hlx' : w.heap.size < u.heap.size := by omega
    have hB' : Below w.heap.size w u := by
        refine kb ?_ hb
        go_grown
    clear hb hz
    obtain ⟨hx_0, hx_1, hx_2⟩ := T
    have hlx := hlx'; clear hlx'
    have hnx0 : ¬ (w.heap.size = u.heap.size) := by omega
    have hnx1 : ¬ (w.heap.size = u.heap.size + 1) := by omega
    have hkx1 : w.heap.size < u.heap.size + 1 := by omega
    have hnx2 : ¬ (w.heap.size = u.heap.size + 1 + 1) := by omega
    have hkx2 : w.heap.size < u.heap.size + 1 + 1 := by omega
    have hB := hB'; clear hB'
    have hsz := hB.size
    go_wp2
    go_ret
    exact ⟨rfl, by go_grown⟩
end Go.Proofs.YtpjpoopgafcedaaDoor
