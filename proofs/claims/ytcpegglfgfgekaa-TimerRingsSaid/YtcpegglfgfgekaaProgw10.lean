/-
  The program's timer: mayBe, has, control, Write.
-/
import Derived.Test.YtcpegglfgfgekaaProg10
import Derived.Test.YtcpegglfgfgekaaBits10
set_option linter.unusedSimpArgs false
set_option linter.unusedVariables false
namespace Go.Proofs.Ytcpegglfgfgekaa
open Go.RowKit Go.PlainAid

def mayI (n : Int) : Bool := decide (0 ≤ n) && decide (n ≤ 65535)
set_option maxRecDepth 100000 in
theorem maybe_c (n : Int) (w : World) : Calls Try.prog 24 #[.int .i64 n] w fun e w' => e = .returned (.bool (mayI n)) ∧ Below w.heap.size w w' := by
  unfold mayI
  by_cases h1 : 0 ≤ n
  case neg =>
    rw [show decide (0 ≤ n) = false by simpa using h1, Bool.false_and]
    go_enter Try.func24, Try.ntmps24
    go_wp2
    go_ret
    exact ⟨rfl, by go_grown⟩
  rw [show decide (0 ≤ n) = true by simpa using h1, Bool.true_and]
  go_enter Try.func24, Try.ntmps24
  go_wp2
  all_goals
    go_ret
    exact ⟨by simp [*], by go_grown⟩
set_option maxRecDepth 100000 in
theorem has0_c (v : Int) (hv : 0 ≤ v ∧ v ≤ 255) (w : World) : Calls Try.prog 25 #[.int .u8 v, .int .i64 0] w fun e w' => e = .returned (.bool (onT v 1)) ∧ Below w.heap.size w w' := by
  have e := on1 v hv
  generalize onT v 1 = R at *
  go_enter Try.func25, Try.ntmps25
  go_wp2
  go_ret
  exact ⟨rfl, by go_grown⟩
set_option maxRecDepth 100000 in
theorem has1_c (v : Int) (hv : 0 ≤ v ∧ v ≤ 255) (w : World) : Calls Try.prog 25 #[.int .u8 v, .int .i64 1] w fun e w' => e = .returned (.bool (onT v 2)) ∧ Below w.heap.size w w' := by
  have e := on2 v hv
  generalize onT v 2 = R at *
  go_enter Try.func25, Try.ntmps25
  go_wp2
  go_ret
  exact ⟨rfl, by go_grown⟩
set_option maxRecDepth 100000 in
theorem has2_c (v : Int) (hv : 0 ≤ v ∧ v ≤ 255) (w : World) : Calls Try.prog 25 #[.int .u8 v, .int .i64 2] w fun e w' => e = .returned (.bool (onT v 4)) ∧ Below w.heap.size w w' := by
  have e := on4 v hv
  generalize onT v 4 = R at *
  go_enter Try.func25, Try.ntmps25
  go_wp2
  go_ret
  exact ⟨rfl, by go_grown⟩
set_option maxRecDepth 100000 in
theorem control_c (v : Int) (hv : 0 ≤ v ∧ v ≤ 255) (tb o : Nat) (x : Tm) (w : World) (h : Tw tb o x w) : Calls Try.prog 23 #[.pointer (some ⟨tb, o, none⟩), .int .u8 v] w (TmEnd tb o (.tuple #[]) (ctlT x v) w) := by
  have HH0 := Lib.hid (fun W => has0_c v hv W)
  have HH1 := Lib.hid (fun W => has1_c v hv W)
  have HH2 := Lib.hid (fun W => has2_c v hv W)
  unfold ctlT
  generalize onT v 1 = R at *
  generalize onT v 2 = A at *
  generalize onT v 4 = S at *
  have HP := Lib.hid h.start
  have hlt := h.lt
  obtain ⟨l, c, r, a, s, g⟩ := x
  dsimp only at *
  clear h
  cases R
  all_goals
    go_enter Try.func23, Try.ntmps23
    go_wp2_with fail
    ((with_reducible refine (HH0.out _).mono ?_); rintro _ u1 ⟨rfl, hb⟩)
    have hz := hb.size
    (try simp only [World.size_alloc, World.size_setCell, World.size_drew] at hz)
    have hB' : Below w.heap.size w u1 := by
        refine kb ?_ hb
        go_grown
    clear hb hz
    have hB := hB'; clear hB'
    have hsz := hB.size
    go_wp2_with fail
    ((with_reducible refine (HH1.out _).mono ?_); rintro _ u2 ⟨rfl, hb⟩)
    have hz := hb.size
    (try simp only [World.size_alloc, World.size_setCell, World.size_drew] at hz)
    have hB' : Below w.heap.size w u2 := by
        refine kb ?_ hb
        go_grown
    clear hB hsz
    clear hb hz
    have hB := hB'; clear hB'
    have hsz := hB.size
    go_wp2_with fail
    ((with_reducible refine (HH2.out _).mono ?_); rintro _ u3 ⟨rfl, hb⟩)
    have hz := hb.size
    (try simp only [World.size_alloc, World.size_setCell, World.size_drew] at hz)
    have hB' : Below w.heap.size w u3 := by
        refine kb ?_ hb
        go_grown
    clear hB hsz
    clear hb hz
    have hB := hB'; clear hB'
    have hsz := hB.size
    have HP3 := Lib.hid (HP.out.below hlt hB)
    obtain ⟨h0, h1, h2, h3, h4, h5⟩ := HP3.out.t.cells
    dsimp only at h0 h1 h2 h3 h4 h5
    have f1 := HP3.out.t.f 1 (by omega)
    have f2 := HP3.out.t.f 2 (by omega)
    have f3 := HP3.out.t.f 3 (by omega)
    have f4 := HP3.out.t.f 4 (by omega)
    go_wp2
    go_end0
    first
    | exact ⟨rfl, (((HP3.out.setR _).setA _).setS _).setC l⟩
    | exact ⟨rfl, ((HP3.out.setR _).setA _).setS _⟩
set_option maxRecDepth 100000 in
theorem writen_t (reg v : Int) (w : World) : Calls Try.prog 15 #[.pointer none, .int .i64 reg, .int .u8 v] w fun e w' => e = .returned (.int .i64 2) ∧ Below w.heap.size w w' := by
  go_enter Try.func15, Try.ntmps15
  go_wp2
  go_ret
  exact ⟨rfl, by go_grown⟩
set_option maxRecDepth 100000 in
set_option maxHeartbeats 1000000 in
theorem writep_t (reg v : Int) (hv : 0 ≤ v ∧ v ≤ 255) (tb o : Nat) (x : Tm) (hm : x.May) (w : World) (h : Tw tb o x w) : Calls Try.prog 15 #[.pointer (some ⟨tb, o, none⟩), .int .i64 reg, .int .u8 v] w (TmEnd tb o (.int .i64 (regE reg)) (writeT x reg v) w) := by
  have HC := Lib.hid (control_c v hv tb o x w h)
  obtain ⟨h0, h1, h2, h3, h4, h5⟩ := h.cells
  have f0 := h.f 0 (by omega)
  rw [Nat.add_zero] at f0
  have f5 := h.f 5 (by omega)
  have HP := Lib.hid h.start
  obtain ⟨l, c, r, a, s, g⟩ := x
  obtain ⟨m1, m2⟩ := hm
  dsimp only at *
  clear h
  rcases reg_cases reg with rfl | rfl | rfl | rfl | ⟨n0, n1, n2, n3⟩
  · have e : writeT ⟨l, c, r, a, s, g⟩ 0 v = ⟨l / 256 * 256 + v, c, r, a, s, g⟩ := rfl
    rw [e]
    have eb := low_byte l v m1 hv
    generalize l / 256 * 256 + v = N at *
    go_enter Try.func15, Try.ntmps15
    go_wp2
    go_ret
    exact ⟨rfl, HP.out.setL _⟩
  · have e : writeT ⟨l, c, r, a, s, g⟩ 1 v = ⟨l % 256 + 256 * v, c, r, a, s, g⟩ := rfl
    rw [e]
    have eb := high_byte l v m1 hv
    generalize l % 256 + 256 * v = N at *
    go_enter Try.func15, Try.ntmps15
    go_wp2
    go_ret
    exact ⟨rfl, HP.out.setL _⟩
  · have e : writeT ⟨l, c, r, a, s, g⟩ 2 v = ctlT ⟨l, c, r, a, s, g⟩ v := rfl
    rw [e]
    generalize ctlT ⟨l, c, r, a, s, g⟩ v = Y at *
    clear e
    go_enter Try.func15, Try.ntmps15
    go_wp2_with fail
    refine HC.out.mono ?_
    rintro _ u ⟨rfl, hT⟩
    have HT := Lib.hid hT
    clear hT
    go_wp2
    go_ret
    exact ⟨rfl, HT.out⟩
  · have e : writeT ⟨l, c, r, a, s, g⟩ 3 v = ⟨l, c, r, a, s, false⟩ := rfl
    rw [e]
    go_enter Try.func15, Try.ntmps15
    go_wp2
    go_ret
    exact ⟨rfl, HP.out.setG _⟩
  · have e : writeT ⟨l, c, r, a, s, g⟩ reg v = ⟨l, c, r, a, s, g⟩ := by unfold writeT; rw [if_neg n0, if_neg n1, if_neg n2, if_neg n3]
    have eE : regE reg = 10 := by unfold regE; rw [if_neg (by omega)]
    rw [e, eE]
    have d0 : (reg == 0) = false := by simpa using n0
    have d1 : (reg == 1) = false := by simpa using n1
    have d2 : (reg == 2) = false := by simpa using n2
    have d3 : (reg == 3) = false := by simpa using n3
    clear n0 n1 n2 n3 e eE
    go_enter Try.func15, Try.ntmps15
    go_wp2
    go_ret
    exact ⟨rfl, HP.out⟩
end Go.Proofs.Ytcpegglfgfgekaa
