/-
  The program's wheel: where it lies; New, Read, At.
-/
import Derived.Test.YtkabpnchfhkhgaaWhole12
set_option linter.unusedSimpArgs false
set_option linter.unusedVariables false
namespace Go.Proofs.Ytkabpnchfhkhgaa
open Go.RowKit Go.PlainAid

structure Pw (wb : Nat) (R : Wh) (w : World) : Prop where
  c0 : w.cell? ⟨wb, 0, none⟩ = some (cV R.x R.y)
  c1 : w.cell? ⟨wb, 1, none⟩ = some (cV (waysX R.q) (waysY R.q))
  c2 : w.cell? ⟨wb, 2, none⟩ = some (.int .u8 R.b)
  f : ∀ i, i < 3 → w.frozen? ⟨wb, i, none⟩ = false
theorem Pw.fr {wb : Nat} {R : Wh} {w u : World} {H : Nat → Prop} (h : Pw wb R w) (hf : Fr H w u) (hn : ¬ H wb) : Pw wb R u :=
  ⟨hf.cell h.c0 hn, hf.cell h.c1 hn, hf.cell h.c2 hn, fun i hi => hf.frozen (klt h.c0) (h.f i hi) hn⟩
theorem Pw.below {wb : Nat} {R : Wh} {w u : World} (h : Pw wb R w) (hb : Below w.heap.size w u) : Pw wb R u := h.fr (Fr.ofBelow (F := fun _ => False) hb) (fun f => f)
theorem Pw.lt {wb : Nat} {R : Wh} {w : World} (h : Pw wb R w) : wb < w.heap.size := klt h.c0
theorem Rh.lt {rb : Nat} {R : Wh} {w : World} (h : Rh rb R w) : rb < w.heap.size := klt h.c0
def wh0 : Wh := ⟨0, 0, 0, 0⟩
theorem wh0_may : wh0.May := ⟨by decide, by decide, by decide, by decide⟩
def rdW (R : Wh) (reg : Int) : Int := if reg = 0 then R.b else if reg = 1 then R.x % 256 else if reg = 2 then R.y % 256 else 0
def rdE (reg : Int) : Int := if 0 ≤ reg ∧ reg ≤ 2 then 0 else 10
def rdV (R : Wh) (reg : Int) : Value := .tuple #[.agg #[.int .u8 (rdW R reg), .int .u8 0], .int .i64 (rdE reg)]
theorem reg12_cases (reg : Int) : reg = 0 ∨ reg = 1 ∨ reg = 2 ∨ (reg ≠ 0 ∧ reg ≠ 1 ∧ reg ≠ 2) := by omega
set_option maxRecDepth 100000 in
theorem wnew_c (w : World) : Calls Try.prog 7 #[] w fun e w' => ∃ wb, e = .returned (.pointer (some ⟨wb, 0, none⟩)) ∧ Pw wb wh0 w' ∧ w.heap.size ≤ wb ∧ Below w.heap.size w w' := by
  have e0 : cV wh0.x wh0.y = .complex .f64 0 0 := by unfold cV; rw [show wh0.x = 0 from rfl, show wh0.y = 0 from rfl, zF_zero]
  have e1 : cV (waysX wh0.q) (waysY wh0.q) = .complex .f64 4607182418800017408 0 := by unfold cV; rw [show waysX wh0.q = 1 from rfl, show waysY wh0.q = 0 from rfl, zF_zero, zF_one]
  go_enter Try.func7, Try.ntmps7
  go_wp2
  go_ret
  refine ⟨_, rfl, ⟨by rw [e0]; go_simp; first | done | rfl, by rw [e1]; go_simp; first | done | rfl, by go_simp; first | done | rfl, fun i hi => by go_simp⟩, Nat.le_refl _, by go_grown⟩
theorem conv_to_i8 {n : Int} (h : -128 ≤ n ∧ n ≤ 127) (W : World) : (convert 46 60 (.float .f64 (zF n))).run Try.prog W = .ok (.int .i8 n) W := by
  refine run_convert_float_int W 46 60 .f64 .i8 _ n (by kernel_rfl) (by kernel_rfl) ?_
  unfold floatToIntVal zF
  rw [fz_int (zF_fine (by rw [p53]; omega))]
  dsimp only
  rw [if_pos]
  have e1 : IntKind.i8.min = -128 := by decide
  have e2 : IntKind.i8.max = 127 := by decide
  rw [e1, e2]
  exact h
set_option maxRecDepth 100000 in
theorem bits_c {n : Int} (h : -128 ≤ n ∧ n ≤ 127) (w : World) : Calls Try.prog 23 #[.float .f64 (zF n)] w fun e w' => e = .returned (.int .u8 (n % 256)) ∧ Below w.heap.size w w' := by
  have hc := fun W => conv_to_i8 h W
  generalize zF n = P at *
  go_enter Try.func23, Try.ntmps23
  go_wp2
  go_ret
  exact ⟨rfl, by go_grown⟩
set_option maxRecDepth 100000 in
theorem wread_nil (reg : Int) (w : World) : Calls Try.prog 12 #[.pointer none, .int .i64 reg] w fun e w' => e = .returned (.tuple #[.agg #[.int .u8 0, .int .u8 0], .int .i64 2]) ∧ Below w.heap.size w w' := by
  go_enter Try.func12, Try.ntmps12
  go_wp2
  refine bodyPost_ret (v := .tuple #[.agg #[.int .u8 0, .int .u8 0], .int .i64 2]) (by simp [results, Try.results12, go_sem] <;> first | done | rfl) rfl ?_
  exact ⟨rfl, by go_grown⟩
set_option maxRecDepth 100000 in
set_option maxHeartbeats 1000000 in
theorem wread_c (wb : Nat) (R : Wh) (hR : R.May) (reg : Int) (w : World) (h : Pw wb R w) :
    Calls Try.prog 12 #[.pointer (some ⟨wb, 0, none⟩), .int .i64 reg] w fun e w' => e = .returned (rdV R reg) ∧ Below w.heap.size w w' := by
  obtain ⟨c0, c1, c2, -⟩ := h
  have hlt := klt c0
  obtain ⟨q1, q2, q3, q4, q5⟩ := ap0 hlt
  have HX := Lib.hid (fun W => bits_c hR.x W)
  have HY := Lib.hid (fun W => bits_c hR.y W)
  unfold cV at c0 c1
  unfold rdV rdW rdE
  obtain ⟨rx, ry, rq, rb⟩ := R
  dsimp only at *
  generalize zF rx = X at *
  generalize zF ry = Y at *
  generalize zF (waysX rq) = A at *
  generalize zF (waysY rq) = B at *
  clear hR
  rcases reg12_cases reg with rfl | rfl | rfl | ⟨n0, n1, n2⟩
  · go_enter Try.func12, Try.ntmps12
    go_wp2
    refine bodyPost_ret (v := .tuple #[.agg #[.int .u8 rb, .int .u8 0], .int .i64 0]) (by simp [results, Try.results12, go_sem] <;> first | done | rfl) rfl ?_
    exact ⟨rfl, by go_grown⟩
  · go_enter Try.func12, Try.ntmps12
    go_wp2_with fail
    have HA := Lib.hid (show Below w.heap.size w (w.alloc (Obj.cells #[Value.int .u8 0, Value.int .u8 0] 34)) from by go_grown)
    refine (HX.out _).mono ?_
    rintro _ u ⟨rfl, hb⟩
    have hz := hb.size
    have l0 : w.heap.size < u.heap.size := by (simp at hz); omega
    have g0 : u.frozen? ⟨w.heap.size, 0, none⟩ = false := by rw [(bcell hb).2 _ _ (by simp)]; go_simp
    have g1 : u.frozen? ⟨w.heap.size, 1, none⟩ = false := by rw [(bcell hb).2 _ _ (by simp)]; go_simp
    have k0 : u.cell? ⟨w.heap.size, 0, none⟩ = some (.int .u8 0) := by rw [(bcell hb).1 _ _ (by simp)]; go_simp; first | done | rfl
    have k1 : u.cell? ⟨w.heap.size, 1, none⟩ = some (.int .u8 0) := by rw [(bcell hb).1 _ _ (by simp)]; go_simp; first | done | rfl
    have HB := Lib.hid (Below.trans HA.out (hb.mono (by simp)))
    clear hb hz
    go_wp2
    refine bodyPost_ret (v := .tuple #[.agg #[.int .u8 (rx % 256), .int .u8 0], .int .i64 0]) (by simp [results, Try.results12, go_sem, k0, k1] <;> first | done | rfl) rfl ?_
    exact ⟨rfl, Below.trans HB.out (by go_grown)⟩
  · go_enter Try.func12, Try.ntmps12
    go_wp2_with fail
    have HA := Lib.hid (show Below w.heap.size w (w.alloc (Obj.cells #[Value.int .u8 0, Value.int .u8 0] 34)) from by go_grown)
    refine (HY.out _).mono ?_
    rintro _ u ⟨rfl, hb⟩
    have hz := hb.size
    have l0 : w.heap.size < u.heap.size := by (simp at hz); omega
    have g0 : u.frozen? ⟨w.heap.size, 0, none⟩ = false := by rw [(bcell hb).2 _ _ (by simp)]; go_simp
    have g1 : u.frozen? ⟨w.heap.size, 1, none⟩ = false := by rw [(bcell hb).2 _ _ (by simp)]; go_simp
    have k0 : u.cell? ⟨w.heap.size, 0, none⟩ = some (.int .u8 0) := by rw [(bcell hb).1 _ _ (by simp)]; go_simp; first | done | rfl
    have k1 : u.cell? ⟨w.heap.size, 1, none⟩ = some (.int .u8 0) := by rw [(bcell hb).1 _ _ (by simp)]; go_simp; first | done | rfl
    have HB := Lib.hid (Below.trans HA.out (hb.mono (by simp)))
    clear hb hz
    go_wp2
    refine bodyPost_ret (v := .tuple #[.agg #[.int .u8 (ry % 256), .int .u8 0], .int .i64 0]) (by simp [results, Try.results12, go_sem, k0, k1] <;> first | done | rfl) rfl ?_
    exact ⟨rfl, Below.trans HB.out (by go_grown)⟩
  · have d0 : (reg == 0) = false := by simpa using n0
    have d1 : (reg == 1) = false := by simpa using n1
    have d2 : (reg == 2) = false := by simpa using n2
    rw [if_neg n0, if_neg n1, if_neg n2, if_neg (by omega)]
    clear n0 n1 n2
    go_enter Try.func12, Try.ntmps12
    go_wp2
    refine bodyPost_ret (v := .tuple #[.agg #[.int .u8 0, .int .u8 0], .int .i64 10]) (by simp [results, Try.results12, go_sem] <;> first | done | rfl) rfl ?_
    exact ⟨rfl, by go_grown⟩
set_option maxRecDepth 100000 in
theorem wat_c (wb : Nat) (R : Wh) (w : World) (h : Pw wb R w) : Calls Try.prog 18 #[.pointer (some ⟨wb, 0, none⟩)] w fun e w' => e = .returned (cV R.x R.y) ∧ Below w.heap.size w w' := by
  obtain ⟨c0, c1, c2, -⟩ := h
  generalize cV R.x R.y = V at *
  unfold cV at *
  go_enter Try.func18, Try.ntmps18
  go_wp2
  go_ret
  exact ⟨rfl, by go_grown⟩
end Go.Proofs.Ytkabpnchfhkhgaa
