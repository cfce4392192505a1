/-
  Layer 8's document: which addresses are of which kind.
-/
import Derived.Test.YtoakgchfdihjbaaDoorBase
set_option linter.unusedSimpArgs false
set_option linter.unusedVariables false
namespace Go.Proofs.YtoakgchfdihjbaaDoor
open Go.RowKit Go.PlainAid

def ramB (a : Int) : Bool := decide (0 ≤ a) && decide (a < 32768)
def romB (a : Int) : Bool := decide (49152 ≤ a) && decide (a < 65536)
def devB (a : Int) : Bool := decide (32768 ≤ a) && decide (a < 32784)
def oneB (a b : Int) : Bool := (ramB a && ramB b) || (romB a && romB b)
set_option maxRecDepth 100000 in
theorem ramr_c (a : Int) (w : World) : Calls Tryd.prog 19 #[.int .i64 a] w fun e w' => e = .returned (.bool (ramB a)) ∧ Below w.heap.size w w' := by
  unfold ramB
  cases h1 : decide (0 ≤ a)
  · go_enter Tryd.func19, Tryd.ntmps19
    go_wp2
    go_ret
    exact ⟨rfl, by go_grown⟩
  · go_enter Tryd.func19, Tryd.ntmps19
    go_wp2
    go_ret
    exact ⟨rfl, by go_grown⟩
set_option maxRecDepth 100000 in
theorem romr_c (a : Int) (w : World) : Calls Tryd.prog 21 #[.int .i64 a] w fun e w' => e = .returned (.bool (romB a)) ∧ Below w.heap.size w w' := by
  unfold romB
  cases h1 : decide (49152 ≤ a)
  · go_enter Tryd.func21, Tryd.ntmps21
    go_wp2
    go_ret
    exact ⟨rfl, by go_grown⟩
  · go_enter Tryd.func21, Tryd.ntmps21
    go_wp2
    go_ret
    exact ⟨rfl, by go_grown⟩
set_option maxRecDepth 100000 in
theorem devr_c (a : Int) (w : World) : Calls Tryd.prog 30 #[.int .i64 a] w fun e w' => e = .returned (.bool (devB a)) ∧ Below w.heap.size w w' := by
  unfold devB
  cases h1 : decide (32768 ≤ a)
  · go_enter Tryd.func30, Tryd.ntmps30
    go_wp2
    go_ret
    exact ⟨rfl, by go_grown⟩
  · go_enter Tryd.func30, Tryd.ntmps30
    go_wp2
    go_ret
    exact ⟨rfl, by go_grown⟩
set_option maxRecDepth 100000 in
theorem oner_c (a b : Int) (w : World) : Calls Tryd.prog 25 #[.int .i64 a, .int .i64 b] w fun e w' => e = .returned (.bool (oneB a b)) ∧ Below w.heap.size w w' := by
  have H1 := Lib.hid (fun W => ramr_c a W)
  have H2 := Lib.hid (fun W => ramr_c b W)
  have H3 := Lib.hid (fun W => romr_c a W)
  have H4 := Lib.hid (fun W => romr_c b W)
  unfold oneB
  generalize ramB a = R1 at *
  generalize ramB b = R2 at *
  generalize romB a = R3 at *
  generalize romB b = R4 at *
  cases R1
  · go_enter Tryd.func25, Tryd.ntmps25
    go_wp2_with fail
    ((with_reducible refine (H1.out _).mono ?_); rintro _ u1 ⟨rfl, hb⟩)
    have hz := hb.size
    (try simp only [World.size_alloc, World.size_setCell, World.size_drew] at hz)
    have hB' : Below w.heap.size w u1 := by
        refine kb ?_ hb
        go_grown
    clear hb hz
    have hB := hB'; clear hB'
    have hsz := hB.size
    go_wp2_with fail
    ((with_reducible refine (H3.out _).mono ?_); rintro _ u2 ⟨rfl, hb⟩)
    have hz := hb.size
    (try simp only [World.size_alloc, World.size_setCell, World.size_drew] at hz)
    have hB' : Below w.heap.size w u2 := by
        refine kb ?_ hb
        go_grown
    clear hB hsz
    clear hb hz
    have hB := hB'; clear hB'
    have hsz := hB.size
    cases R3
    · go_wp2
      go_ret
      exact ⟨rfl, hB⟩
    · go_wp2_with fail
      ((with_reducible refine (H4.out _).mono ?_); rintro _ u3 ⟨rfl, hb⟩)
      have hz := hb.size
      (try simp only [World.size_alloc, World.size_setCell, World.size_drew] at hz)
      have hB' : Below w.heap.size w u3 := by
          refine kb ?_ hb
          go_grown
      clear hB hsz
      clear hb hz
      have hB := hB'; clear hB'
      have hsz := hB.size
      go_wp2
      go_ret
      exact ⟨rfl, hB⟩
  · go_enter Tryd.func25, Tryd.ntmps25
    go_wp2_with fail
    ((with_reducible refine (H1.out _).mono ?_); rintro _ u1 ⟨rfl, hb⟩)
    have hz := hb.size
    (try simp only [World.size_alloc, World.size_setCell, World.size_drew] at hz)
    have hB' : Below w.heap.size w u1 := by
        refine kb ?_ hb
        go_grown
    clear hb hz
    have hB := hB'; clear hB'
    have hsz := hB.size
    go_wp2_with fail
    ((with_reducible refine (H2.out _).mono ?_); rintro _ u2 ⟨rfl, hb⟩)
    have hz := hb.size
    (try simp only [World.size_alloc, World.size_setCell, World.size_drew] at hz)
    have hB' : Below w.heap.size w u2 := by
        refine kb ?_ hb
        go_grown
    clear hB hsz
    clear hb hz
    have hB := hB'; clear hB'
    have hsz := hB.size
    cases R2
    · go_wp2_with fail
      ((with_reducible refine (H3.out _).mono ?_); rintro _ u3 ⟨rfl, hb⟩)
      have hz := hb.size
      (try simp only [World.size_alloc, World.size_setCell, World.size_drew] at hz)
      have hB' : Below w.heap.size w u3 := by
          refine kb ?_ hb
          go_grown
      clear hB hsz
      clear hb hz
      have hB := hB'; clear hB'
      have hsz := hB.size
      cases R3
      · go_wp2
        go_ret
        exact ⟨rfl, hB⟩
      · go_wp2_with fail
        ((with_reducible refine (H4.out _).mono ?_); rintro _ u4 ⟨rfl, hb⟩)
        have hz := hb.size
        (try simp only [World.size_alloc, World.size_setCell, World.size_drew] at hz)
        have hB' : Below w.heap.size w u4 := by
            refine kb ?_ hb
            go_grown
        clear hB hsz
        clear hb hz
        have hB := hB'; clear hB'
        have hsz := hB.size
        go_wp2
        go_ret
        exact ⟨rfl, hB⟩
    · go_wp2
      go_ret
      exact ⟨rfl, hB⟩
end Go.Proofs.YtoakgchfdihjbaaDoor
