/-
  Layer 5's document: a line's bytes at an address.
-/
import Derived.Test.YtpjpoopgafcedaaGreatDoorText
import Derived.Laws.OwnMore
import Derived.Laws.AppendOwn
import Derived.OwnWalk
import Derived.Lib.SmallJoins
set_option linter.unusedSimpArgs false
set_option linter.unusedVariables false
namespace Go.Proofs.YtpjpoopgafcedaaGreatDoor
open Go.RowKit Go.PlainAid Go.Joins

/-- How a call ends that answers bytes and an error: a slice of its own that holds them. -/
def BytesEnd (w : World) (l : List Int) (E : Int) : Ending → World → Prop := fun e w' =>
  ∃ v, e = .returned (.tuple #[v, .int .i64 E]) ∧ w'.ownsRow w.heap.size 5 1 v l.length (l.map (Value.int .u8)) ∧ Below w.heap.size w w'
theorem bytesEnd_nil {w w' : World} {E : Int} (h : Below w.heap.size w w') : BytesEnd w [] E (.returned (.tuple #[.slice none 0 0, .int .i64 E])) w' :=
  ⟨_, rfl, World.ownsRow_nil _ _ _ _, h⟩
set_option maxRecDepth 100000 in
set_option maxHeartbeats 1000000 in
theorem bytes_wrong (b : Nat) (n a E : Int) (hE : E ≠ 0)
    (hW : ∀ w, Calls Tryz.prog 24 #[.agg #[.int .i64 b, .int .i64 n]] w fun e w' => e = .returned (.int .i64 E) ∧ Below w.heap.size w w') (w : World) :
    Calls Tryz.prog 14 #[.agg #[.int .i64 b, .int .i64 n], .int .i64 a] w (BytesEnd w [] E) := by
  have HW := Lib.hid hW
  have hne : (E == 0) = false := by rw [beq_eq_false_iff_ne]; exact hE
  clear hW hE
  go_enter Tryz.func14, Tryz.ntmps14
  go_wp2_with fail
  ((with_reducible refine (HW.out _).mono ?_); rintro _ u ⟨rfl, hb⟩)
  have T : u.cell? ⟨w.heap.size, 0, none⟩ = some (.int .i64 b) ∧ u.cell? ⟨w.heap.size, 1, none⟩ = some (.int .i64 n) := by
      refine ⟨?_, ?_⟩ <;> refine kc hb ?_ <;> (go_simp; first | done | rfl)
  have hz := hb.size
  (try simp only [World.size_alloc, World.size_setCell, World.size_drew] at hz)
  have hlx' : w.heap.size < u.heap.size := by omega
  have hB' : Below w.heap.size w u := by
      refine kb ?_ hb
      go_grown
  clear hb hz
  obtain ⟨hx_0, hx_1⟩ := T
  have hlx := hlx'; clear hlx'
  have hnx0 : ¬ (w.heap.size = u.heap.size) := by omega
  have hnx1 : ¬ (w.heap.size = u.heap.size + 1) := by omega
  have hkx1 : w.heap.size < u.heap.size + 1 := by omega
  have hnx2 : ¬ (w.heap.size = u.heap.size + 1 + 1) := by omega
  have hkx2 : w.heap.size < u.heap.size + 1 + 1 := by omega
  have hB := hB'; clear hB'
  have hsz := hB.size
  go_wp2
  refine bodyPost_ret (v := .tuple #[.slice none 0 0, .int .i64 E]) (by simp [results, Tryz.results14, go_sem]) rfl (bytesEnd_nil (by go_grown))
set_option maxRecDepth 100000 in
set_option maxHeartbeats 1000000 in
theorem bytes_range (b : Nat) (n a k m : Int) (r : Int)
    (hW : ∀ w, Calls Tryz.prog 24 #[.agg #[.int .i64 b, .int .i64 n]] w fun e w' => e = .returned (.int .i64 0) ∧ Below w.heap.size w w')
    (hF : ∀ w, Calls Tryz.prog 25 #[.int .i64 b] w fun e w' => e = .returned (.tuple #[.int .i64 r, .int .i64 k]) ∧ Below w.heap.size w w')
    (hL : ∀ w, Calls Tryz.prog 26 #[.int .i64 k] w fun e w' => e = .returned (.int .i64 m) ∧ Below w.heap.size w w')
    (hm : 1 ≤ m ∧ m ≤ 3) (h : a < 0 ∨ 65535 < a ∨ 65536 < a + m) (w : World) :
    Calls Tryz.prog 14 #[.agg #[.int .i64 b, .int .i64 n], .int .i64 a] w (BytesEnd w [] 10) := by
  have HW := Lib.hid hW
  have HF := Lib.hid hF
  have HL := Lib.hid hL
  clear hW hF hL
  have hx : (decide (a < 0) = true) ∨ (decide (a < 0) = false ∧ decide (65535 < a) = true) ∨ (decide (a < 0) = false ∧ decide (65535 < a) = false ∧ decide (65536 < a + m) = true ∧ IntKind.i64.wrap (a + m) = a + m) := by
    by_cases h1 : a < 0
    · exact .inl (decide_eq_true h1)
    · by_cases h2 : 65535 < a
      · exact .inr (.inl ⟨decide_eq_false h1, decide_eq_true h2⟩)
      · exact .inr (.inr ⟨decide_eq_false h1, decide_eq_false h2, decide_eq_true (by omega), IntWalk.i64_in _ (by omega)⟩)
  clear h hm
  rcases hx with e1 | ⟨e1, e2⟩ | ⟨e1, e2, e3, e4⟩
  all_goals
    skip
    go_enter Tryz.func14, Tryz.ntmps14
    go_wp2_with fail
    ((with_reducible refine (HW.out _).mono ?_); rintro _ u ⟨rfl, hb⟩)
    have T : u.cell? ⟨w.heap.size, 0, none⟩ = some (.int .i64 b) ∧ u.cell? ⟨w.heap.size, 1, none⟩ = some (.int .i64 n) := by
        refine ⟨?_, ?_⟩ <;> refine kc hb ?_ <;> (go_simp; first | done | rfl)
    have hz := hb.size
    (try simp only [World.size_alloc, World.size_setCell, World.size_drew] at hz)
    have hlx' : w.heap.size < u.heap.size := by omega
    have hB' : Below w.heap.size w u := by
        refine kb ?_ hb
        go_grown
    clear hb hz
    obtain ⟨hx_0, hx_1⟩ := T
    have hlx := hlx'; clear hlx'
    have hnx0 : ¬ (w.heap.size = u.heap.size) := by omega
    have hnx1 : ¬ (w.heap.size = u.heap.size + 1) := by omega
    have hkx1 : w.heap.size < u.heap.size + 1 := by omega
    have hnx2 : ¬ (w.heap.size = u.heap.size + 1 + 1) := by omega
    have hkx2 : w.heap.size < u.heap.size + 1 + 1 := by omega
    have hB := hB'; clear hB'
    have hsz := hB.size
    go_wp2_with fail
    ((with_reducible refine (HF.out _).mono ?_); rintro _ u2 ⟨rfl, hb⟩)
    have T : u2.cell? ⟨w.heap.size, 0, none⟩ = some (.int .i64 b) ∧ u2.cell? ⟨w.heap.size, 1, none⟩ = some (.int .i64 n) := by
        refine ⟨?_, ?_⟩ <;> refine kc hb ?_ <;> (go_simp; first | done | rfl)
    have hz := hb.size
    (try simp only [World.size_alloc, World.size_setCell, World.size_drew] at hz)
    have hlx' : w.heap.size < u2.heap.size := by omega
    have hB' : Below w.heap.size w u2 := by
        refine kb ?_ hb
        go_grown
    clear hx_0 hx_1 hlx hnx0 hnx1 hkx1 hnx2 hkx2 hB hsz
    clear hb hz
    obtain ⟨hx_0, hx_1⟩ := T
    have hlx := hlx'; clear hlx'
    have hnx0 : ¬ (w.heap.size = u2.heap.size) := by omega
    have hnx1 : ¬ (w.heap.size = u2.heap.size + 1) := by omega
    have hkx1 : w.heap.size < u2.heap.size + 1 := by omega
    have hnx2 : ¬ (w.heap.size = u2.heap.size + 1 + 1) := by omega
    have hkx2 : w.heap.size < u2.heap.size + 1 + 1 := by omega
    have hB := hB'; clear hB'
    have hsz := hB.size
    go_wp2_with fail
    ((with_reducible refine (HL.out _).mono ?_); rintro _ u3 ⟨rfl, hb⟩)
    have T : u3.cell? ⟨w.heap.size, 0, none⟩ = some (.int .i64 b) ∧ u3.cell? ⟨w.heap.size, 1, none⟩ = some (.int .i64 n) := by
        refine ⟨?_, ?_⟩ <;> refine kc hb ?_ <;> (go_simp; first | done | rfl)
    have hz := hb.size
    (try simp only [World.size_alloc, World.size_setCell, World.size_drew] at hz)
    have hlx' : w.heap.size < u3.heap.size := by omega
    have hB' : Below w.heap.size w u3 := by
        refine kb ?_ hb
        go_grown
    clear hx_0 hx_1 hlx hnx0 hnx1 hkx1 hnx2 hkx2 hB hsz
    clear hb hz
    obtain ⟨hx_0, hx_1⟩ := T
    have hlx := hlx'; clear hlx'
    have hnx0 : ¬ (w.heap.size = u3.heap.size) := by omega
    have hnx1 : ¬ (w.heap.size = u3.heap.size + 1) := by omega
    have hkx1 : w.heap.size < u3.heap.size + 1 := by omega
    have hnx2 : ¬ (w.heap.size = u3.heap.size + 1 + 1) := by omega
    have hkx2 : w.heap.size < u3.heap.size + 1 + 1 := by omega
    have hB := hB'; clear hB'
    have hsz := hB.size
    go_wp2
    refine bodyPost_ret (v := .tuple #[.slice none 0 0, .int .i64 10]) (by simp [results, Tryz.results14, go_sem]) rfl (bytesEnd_nil (by go_grown))
set_option maxRecDepth 100000 in
set_option maxHeartbeats 1000000 in
theorem bytes_far (b : Nat) (n a : Int) (r : Int)
    (hW : ∀ w, Calls Tryz.prog 24 #[.agg #[.int .i64 b, .int .i64 n]] w fun e w' => e = .returned (.int .i64 0) ∧ Below w.heap.size w w')
    (hF : ∀ w, Calls Tryz.prog 25 #[.int .i64 b] w fun e w' => e = .returned (.tuple #[.int .i64 r, .int .i64 12]) ∧ Below w.heap.size w w')
    (hL : ∀ w, Calls Tryz.prog 26 #[.int .i64 12] w fun e w' => e = .returned (.int .i64 2) ∧ Below w.heap.size w w')
    (hb : b < 256) (ha : 0 ≤ a) (ha2 : a + 2 ≤ 65536) (hn : 0 ≤ n) (hn2 : n ≤ 65535) (h : n - a - 2 < -128 ∨ 127 < n - a - 2) (w : World) :
    Calls Tryz.prog 14 #[.agg #[.int .i64 b, .int .i64 n], .int .i64 a] w (BytesEnd w [] 10) := by
  have HW := Lib.hid hW
  have HF := Lib.hid hF
  have HL := Lib.hid hL
  have e1 : decide (a < 0) = false := decide_eq_false (by omega)
  have e2 : decide (65535 < a) = false := decide_eq_false (by omega)
  have e3 : decide (65536 < a + 2) = false := decide_eq_false (by omega)
  have w1 : IntKind.i64.wrap (a + 2) = a + 2 := IntWalk.i64_in _ (by omega)
  have w2 : IntKind.i64.wrap (n - a) = n - a := IntWalk.i64_in _ (by omega)
  have w3 : IntKind.i64.wrap (n - a - 2) = n - a - 2 := IntWalk.i64_in _ (by omega)
  have w4 : IntKind.u8.wrap (b : Int) = b := by rw [IntKind.wrap_u8]; omega
  have hx : (decide (n - a - 2 < -128) = true) ∨ (decide (n - a - 2 < -128) = false ∧ decide (127 < n - a - 2) = true) := by
    by_cases h1 : n - a - 2 < -128
    · exact .inl (decide_eq_true h1)
    · exact .inr ⟨decide_eq_false h1, decide_eq_true (by omega)⟩
  clear hW hF hL ha ha2 hn hn2 h hb
  rcases hx with g1 | ⟨g1, g2⟩
  all_goals
    skip
    go_enter Tryz.func14, Tryz.ntmps14
    go_wp2_with fail
    ((with_reducible refine (HW.out _).mono ?_); rintro _ u ⟨rfl, hb⟩)
    have T : u.cell? ⟨w.heap.size, 0, none⟩ = some (.int .i64 b) ∧ u.cell? ⟨w.heap.size, 1, none⟩ = some (.int .i64 n) := by
        refine ⟨?_, ?_⟩ <;> refine kc hb ?_ <;> (go_simp; first | done | rfl)
    have hz := hb.size
    (try simp only [World.size_alloc, World.size_setCell, World.size_drew] at hz)
    have hlx' : w.heap.size < u.heap.size := by omega
    have hB' : Below w.heap.size w u := by
        refine kb ?_ hb
        go_grown
    clear hb hz
    obtain ⟨hx_0, hx_1⟩ := T
    have hlx := hlx'; clear hlx'
    have hnx0 : ¬ (w.heap.size = u.heap.size) := by omega
    have hnx1 : ¬ (w.heap.size = u.heap.size + 1) := by omega
    have hkx1 : w.heap.size < u.heap.size + 1 := by omega
    have hnx2 : ¬ (w.heap.size = u.heap.size + 1 + 1) := by omega
    have hkx2 : w.heap.size < u.heap.size + 1 + 1 := by omega
    have hB := hB'; clear hB'
    have hsz := hB.size
    go_wp2_with fail
    ((with_reducible refine (HF.out _).mono ?_); rintro _ u2 ⟨rfl, hb⟩)
    have T : u2.cell? ⟨w.heap.size, 0, none⟩ = some (.int .i64 b) ∧ u2.cell? ⟨w.heap.size, 1, none⟩ = some (.int .i64 n) := by
        refine ⟨?_, ?_⟩ <;> refine kc hb ?_ <;> (go_simp; first | done | rfl)
    have hz := hb.size
    (try simp only [World.size_alloc, World.size_setCell, World.size_drew] at hz)
    have hlx' : w.heap.size < u2.heap.size := by omega
    have hB' : Below w.heap.size w u2 := by
        refine kb ?_ hb
        go_grown
    clear hx_0 hx_1 hlx hnx0 hnx1 hkx1 hnx2 hkx2 hB hsz
    clear hb hz
    obtain ⟨hx_0, hx_1⟩ := T
    have hlx := hlx'; clear hlx'
    have hnx0 : ¬ (w.heap.size = u2.heap.size) := by omega
    have hnx1 : ¬ (w.heap.size = u2.heap.size + 1) := by omega
    have hkx1 : w.heap.size < u2.heap.size + 1 := by omega
    have hnx2 : ¬ (w.heap.size = u2.heap.size + 1 + 1) := by omega
    have hkx2 : w.heap.size < u2.heap.size + 1 + 1 := by omega
    have hB := hB'; clear hB'
    have hsz := hB.size
    go_wp2_with fail
    ((with_reducible refine (HL.out _).mono ?_); rintro _ u3 ⟨rfl, hb⟩)
    have T : u3.cell? ⟨w.heap.size, 0, none⟩ = some (.int .i64 b) ∧ u3.cell? ⟨w.heap.size, 1, none⟩ = some (.int .i64 n) := by
        refine ⟨?_, ?_⟩ <;> refine kc hb ?_ <;> (go_simp; first | done | rfl)
    have hz := hb.size
    (try simp only [World.size_alloc, World.size_setCell, World.size_drew] at hz)
    have hlx' : w.heap.size < u3.heap.size := by omega
    have hB' : Below w.heap.size w u3 := by
        refine kb ?_ hb
        go_grown
    clear hx_0 hx_1 hlx hnx0 hnx1 hkx1 hnx2 hkx2 hB hsz
    clear hb hz
    obtain ⟨hx_0, hx_1⟩ := T
    have hlx := hlx'; clear hlx'
    have hnx0 : ¬ (w.heap.size = u3.heap.size) := by omega
    have hnx1 : ¬ (w.heap.size = u3.heap.size + 1) := by omega
    have hkx1 : w.heap.size < u3.heap.size + 1 := by omega
    have hnx2 : ¬ (w.heap.size = u3.heap.size + 1 + 1) := by omega
    have hkx2 : w.heap.size < u3.heap.size + 1 + 1 := by omega
    have hB := hB'; clear hB'
    have hsz := hB.size
    go_wp2
    refine bodyPost_ret (v := .tuple #[.slice none 0 0, .int .i64 10]) (by simp [results, Tryz.results14, go_sem]) rfl (bytesEnd_nil (by go_grown))
set_option maxRecDepth 100000 in
set_option maxHeartbeats 1000000 in
theorem bytes_one (b : Nat) (n a k : Int) (r : Int) (hk : (k == 12) = false)
    (hW : ∀ w, Calls Tryz.prog 24 #[.agg #[.int .i64 b, .int .i64 n]] w fun e w' => e = .returned (.int .i64 0) ∧ Below w.heap.size w w')
    (hF : ∀ w, Calls Tryz.prog 25 #[.int .i64 b] w fun e w' => e = .returned (.tuple #[.int .i64 r, .int .i64 k]) ∧ Below w.heap.size w w')
    (hL : ∀ w, Calls Tryz.prog 26 #[.int .i64 k] w fun e w' => e = .returned (.int .i64 1) ∧ Below w.heap.size w w')
    (hb : b < 256) (ha : 0 ≤ a) (ha2 : a + 1 ≤ 65536) (w : World) :
    Calls Tryz.prog 14 #[.agg #[.int .i64 b, .int .i64 n], .int .i64 a] w (BytesEnd w [(b : Int)] 0) := by
  have HW := Lib.hid hW
  have HF := Lib.hid hF
  have HL := Lib.hid hL
  have e1 : decide (a < 0) = false := decide_eq_false (by omega)
  have e2 : decide (65535 < a) = false := decide_eq_false (by omega)
  have e3 : decide (65536 < a + 1) = false := decide_eq_false (by omega)
  have w1 : IntKind.i64.wrap (a + 1) = a + 1 := IntWalk.i64_in _ (by omega)
  have w4 : IntKind.u8.wrap (b : Int) = b := by rw [IntKind.wrap_u8]; omega
  clear hW hF hL ha ha2 hb
  go_enter Tryz.func14, Tryz.ntmps14
  go_wp2_with fail
  ((with_reducible refine (HW.out _).mono ?_); rintro _ u ⟨rfl, hb⟩)
  have T : u.cell? ⟨w.heap.size, 0, none⟩ = some (.int .i64 b) ∧ u.cell? ⟨w.heap.size, 1, none⟩ = some (.int .i64 n) := by
      refine ⟨?_, ?_⟩ <;> refine kc hb ?_ <;> (go_simp; first | done | rfl)
  have hz := hb.size
  (try simp only [World.size_alloc, World.size_setCell, World.size_drew] at hz)
  have hlx' : w.heap.size < u.heap.size := by omega
  have hB' : Below w.heap.size w u := by
      refine kb ?_ hb
      go_grown
  clear hb hz
  obtain ⟨hx_0, hx_1⟩ := T
  have hlx := hlx'; clear hlx'
  have hnx0 : ¬ (w.heap.size = u.heap.size) := by omega
  have hnx1 : ¬ (w.heap.size = u.heap.size + 1) := by omega
  have hkx1 : w.heap.size < u.heap.size + 1 := by omega
  have hnx2 : ¬ (w.heap.size = u.heap.size + 1 + 1) := by omega
  have hkx2 : w.heap.size < u.heap.size + 1 + 1 := by omega
  have hB := hB'; clear hB'
  have hsz := hB.size
  go_wp2_with fail
  ((with_reducible refine (HF.out _).mono ?_); rintro _ u2 ⟨rfl, hb⟩)
  have T : u2.cell? ⟨w.heap.size, 0, none⟩ = some (.int .i64 b) ∧ u2.cell? ⟨w.heap.size, 1, none⟩ = some (.int .i64 n) := by
      refine ⟨?_, ?_⟩ <;> refine kc hb ?_ <;> (go_simp; first | done | rfl)
  have hz := hb.size
  (try simp only [World.size_alloc, World.size_setCell, World.size_drew] at hz)
  have hlx' : w.heap.size < u2.heap.size := by omega
  have hB' : Below w.heap.size w u2 := by
      refine kb ?_ hb
      go_grown
  clear hx_0 hx_1 hlx hnx0 hnx1 hkx1 hnx2 hkx2 hB hsz
  clear hb hz
  obtain ⟨hx_0, hx_1⟩ := T
  have hlx := hlx'; clear hlx'
  have hnx0 : ¬ (w.heap.size = u2.heap.size) := by omega
  have hnx1 : ¬ (w.heap.size = u2.heap.size + 1) := by omega
  have hkx1 : w.heap.size < u2.heap.size + 1 := by omega
  have hnx2 : ¬ (w.heap.size = u2.heap.size + 1 + 1) := by omega
  have hkx2 : w.heap.size < u2.heap.size + 1 + 1 := by omega
  have hB := hB'; clear hB'
  have hsz := hB.size
  go_wp2_with fail
  ((with_reducible refine (HL.out _).mono ?_); rintro _ u3 ⟨rfl, hb⟩)
  have T : u3.cell? ⟨w.heap.size, 0, none⟩ = some (.int .i64 b) ∧ u3.cell? ⟨w.heap.size, 1, none⟩ = some (.int .i64 n) := by
      refine ⟨?_, ?_⟩ <;> refine kc hb ?_ <;> (go_simp; first | done | rfl)
  have hz := hb.size
  (try simp only [World.size_alloc, World.size_setCell, World.size_drew] at hz)
  have hlx' : w.heap.size < u3.heap.size := by omega
  have hB' : Below w.heap.size w u3 := by
      refine kb ?_ hb
      go_grown
  clear hx_0 hx_1 hlx hnx0 hnx1 hkx1 hnx2 hkx2 hB hsz
  clear hb hz
  obtain ⟨hx_0, hx_1⟩ := T
  have hlx := hlx'; clear hlx'
  have hnx0 : ¬ (w.heap.size = u3.heap.size) := by omega
  have hnx1 : ¬ (w.heap.size = u3.heap.size + 1) := by omega
  have hkx1 : w.heap.size < u3.heap.size + 1 := by omega
  have hnx2 : ¬ (w.heap.size = u3.heap.size + 1 + 1) := by omega
  have hkx2 : w.heap.size < u3.heap.size + 1 + 1 := by omega
  have hB := hB'; clear hB'
  have hsz := hB.size
  go_wp2
  refine bodyPost_ret (v := .tuple #[.slice (some ⟨u3.heap.size, 0, none⟩) 1 1, .int .i64 0]) (by simp [results, Tryz.results14, go_sem]) rfl ⟨_, rfl, World.ownsRow_lit u3 #[.int .u8 b] 1 (by omega) (by decide) rfl, by go_grown⟩
theorem Tryz.infoB : (Tryz.prog.info? 5).map (fun i => (i.zero, i.size, i.bytes)) = some (some (.int .u8 0), 1, 1) := by kernel_rfl
set_option maxRecDepth 100000 in
set_option maxHeartbeats 1000000 in
theorem bytes_rel (b : Nat) (n a : Int) (r : Int)
    (hW : ∀ w, Calls Tryz.prog 24 #[.agg #[.int .i64 b, .int .i64 n]] w fun e w' => e = .returned (.int .i64 0) ∧ Below w.heap.size w w')
    (hF : ∀ w, Calls Tryz.prog 25 #[.int .i64 b] w fun e w' => e = .returned (.tuple #[.int .i64 r, .int .i64 12]) ∧ Below w.heap.size w w')
    (hL : ∀ w, Calls Tryz.prog 26 #[.int .i64 12] w fun e w' => e = .returned (.int .i64 2) ∧ Below w.heap.size w w')
    (hb : b < 256) (ha : 0 ≤ a) (ha2 : a + 2 ≤ 65536) (hn : 0 ≤ n) (hn2 : n ≤ 65535) (h1 : ¬ n - a - 2 < -128) (h2 : ¬ 127 < n - a - 2) (w : World) :
    Calls Tryz.prog 14 #[.agg #[.int .i64 b, .int .i64 n], .int .i64 a] w (BytesEnd w [(b : Int), (n - a - 2) % 256] 0) := by
  have HW := Lib.hid hW
  have HF := Lib.hid hF
  have HL := Lib.hid hL
  have e1 : decide (a < 0) = false := decide_eq_false (by omega)
  have e2 : decide (65535 < a) = false := decide_eq_false (by omega)
  have e3 : decide (65536 < a + 2) = false := decide_eq_false (by omega)
  have w1 : IntKind.i64.wrap (a + 2) = a + 2 := IntWalk.i64_in _ (by omega)
  have w2 : IntKind.i64.wrap (n - a) = n - a := IntWalk.i64_in _ (by omega)
  have w3 : IntKind.i64.wrap (n - a - 2) = n - a - 2 := IntWalk.i64_in _ (by omega)
  have w4 : IntKind.u8.wrap (b : Int) = b := by rw [IntKind.wrap_u8]; omega
  have g1 : decide (n - a - 2 < -128) = false := decide_eq_false h1
  have g2 : decide (127 < n - a - 2) = false := decide_eq_false h2
  have hf1 : 0 ≤ n - a - 2 + 256 := by omega
  have hf2 : n - a - 2 + 256 < 512 := by omega
  generalize hF0 : n - a - 2 = F at *
  have w5 : IntKind.i64.wrap (F + 256) = F + 256 := IntWalk.i64_in _ (by omega)
  have w6 : Int.tmod (F + 256) 256 = F % 256 := by rw [Int.tmod_eq_emod_of_nonneg (by omega)]; omega
  have w7 : IntKind.u8.wrap (F % 256) = F % 256 := by rw [IntKind.wrap_u8]; omega
  have w8 : IntKind.i64.wrap (F % 256) = F % 256 := IntWalk.i64_in _ (by omega)
  clear hW hF hL ha ha2 hn hn2 h1 h2 hb hf1 hf2
  obtain ⟨i0, hi, hz0, hz1, hz2⟩ := info_parts Tryz.infoB
  go_enter Tryz.func14, Tryz.ntmps14
  go_wp2_with fail
  ((with_reducible refine (HW.out _).mono ?_); rintro _ u ⟨rfl, hb⟩)
  have T : u.cell? ⟨w.heap.size, 0, none⟩ = some (.int .i64 b) ∧ u.cell? ⟨w.heap.size, 1, none⟩ = some (.int .i64 n) := by
      refine ⟨?_, ?_⟩ <;> refine kc hb ?_ <;> (go_simp; first | done | rfl)
  have hz := hb.size
  (try simp only [World.size_alloc, World.size_setCell, World.size_drew] at hz)
  have hlx' : w.heap.size < u.heap.size := by omega
  have hB' : Below w.heap.size w u := by
      refine kb ?_ hb
      go_grown
  clear hb hz
  obtain ⟨hx_0, hx_1⟩ := T
  have hlx := hlx'; clear hlx'
  have hnx0 : ¬ (w.heap.size = u.heap.size) := by omega
  have hnx1 : ¬ (w.heap.size = u.heap.size + 1) := by omega
  have hkx1 : w.heap.size < u.heap.size + 1 := by omega
  have hnx2 : ¬ (w.heap.size = u.heap.size + 1 + 1) := by omega
  have hkx2 : w.heap.size < u.heap.size + 1 + 1 := by omega
  have hB := hB'; clear hB'
  have hsz := hB.size
  go_wp2_with fail
  ((with_reducible refine (HF.out _).mono ?_); rintro _ u2 ⟨rfl, hb⟩)
  have T : u2.cell? ⟨w.heap.size, 0, none⟩ = some (.int .i64 b) ∧ u2.cell? ⟨w.heap.size, 1, none⟩ = some (.int .i64 n) := by
      refine ⟨?_, ?_⟩ <;> refine kc hb ?_ <;> (go_simp; first | done | rfl)
  have hz := hb.size
  (try simp only [World.size_alloc, World.size_setCell, World.size_drew] at hz)
  have hlx' : w.heap.size < u2.heap.size := by omega
  have hB' : Below w.heap.size w u2 := by
      refine kb ?_ hb
      go_grown
  clear hx_0 hx_1 hlx hnx0 hnx1 hkx1 hnx2 hkx2 hB hsz
  clear hb hz
  obtain ⟨hx_0, hx_1⟩ := T
  have hlx := hlx'; clear hlx'
  have hnx0 : ¬ (w.heap.size = u2.heap.size) := by omega
  have hnx1 : ¬ (w.heap.size = u2.heap.size + 1) := by omega
  have hkx1 : w.heap.size < u2.heap.size + 1 := by omega
  have hnx2 : ¬ (w.heap.size = u2.heap.size + 1 + 1) := by omega
  have hkx2 : w.heap.size < u2.heap.size + 1 + 1 := by omega
  have hB := hB'; clear hB'
  have hsz := hB.size
  go_wp2_with fail
  ((with_reducible refine (HL.out _).mono ?_); rintro _ u3 ⟨rfl, hb⟩)
  have T : u3.cell? ⟨w.heap.size, 0, none⟩ = some (.int .i64 b) ∧ u3.cell? ⟨w.heap.size, 1, none⟩ = some (.int .i64 n) := by
      refine ⟨?_, ?_⟩ <;> refine kc hb ?_ <;> (go_simp; first | done | rfl)
  have hz := hb.size
  (try simp only [World.size_alloc, World.size_setCell, World.size_drew] at hz)
  have hlx' : w.heap.size < u3.heap.size := by omega
  have hB' : Below w.heap.size w u3 := by
      refine kb ?_ hb
      go_grown
  clear hx_0 hx_1 hlx hnx0 hnx1 hkx1 hnx2 hkx2 hB hsz
  clear hb hz
  obtain ⟨hx_0, hx_1⟩ := T
  have hlx := hlx'; clear hlx'
  have hnx0 : ¬ (w.heap.size = u3.heap.size) := by omega
  have hnx1 : ¬ (w.heap.size = u3.heap.size + 1) := by omega
  have hkx1 : w.heap.size < u3.heap.size + 1 := by omega
  have hnx2 : ¬ (w.heap.size = u3.heap.size + 1 + 1) := by omega
  have hkx2 : w.heap.size < u3.heap.size + 1 + 1 := by omega
  have hB := hB'; clear hB'
  have hsz := hB.size
  have hown := World.ownsRow_lit (e := 5) (size := 1) (base := w.heap.size) u3 #[.int .u8 b] 1 (by omega) (by decide) rfl
  have HOwn := Lib.hid hown
  clear hown
  go_wp2_with (at_builtin; refine wpList_append_own _ rfl _ _ 23 rfl w.heap.size 5 i0 (.int .u8 0) 1 1 Tryz.underlying23 hi hz0 hz1 hz2 rfl (by decide) _ 1 _ rfl (HOwn.out.alloc _) ⟨u3.heap.size + 1, 0, none⟩ 1 1 [.int .u8 (F % 256)] rfl rfl ?c1 ?c2 ?c3 ?c4 ?c5 ?_)
  case c1 =>
    intro j u hj
    match j, hj with
    | 0, hj => simp at hj; subst hj; go_simp
  case c2 => intro u hu; simp at hu; subst hu; rfl
  case c3 => unfold maxLen; omega
  case c4 => omega
  case c5 => simp; omega
  · intro v' w' hown' hg _
    have hB' : Below w.heap.size w w' := Below.grown (w := (u3.alloc (Obj.cells #[Value.int IntKind.u8 b] 5)).alloc (Obj.cells #[Value.int IntKind.u8 (F % 256)] 5)) (by go_grown) hg (by simp; omega) (fun k hk => by cases hk; omega)
    have HO' := Lib.hid hown'
    clear hown' hg
    go_wp2
    refine bodyPost_ret (v := .tuple #[v', .int .i64 0]) (by simp [results, Tryz.results14, go_sem]) rfl ⟨v', rfl, HO'.out, hB'⟩
set_option maxRecDepth 100000 in
set_option maxHeartbeats 2000000 in
theorem bytes_two (b : Nat) (n a k : Int) (r : Int) (hk : (k == 12) = false)
    (hW : ∀ w, Calls Tryz.prog 24 #[.agg #[.int .i64 b, .int .i64 n]] w fun e w' => e = .returned (.int .i64 0) ∧ Below w.heap.size w w')
    (hF : ∀ w, Calls Tryz.prog 25 #[.int .i64 b] w fun e w' => e = .returned (.tuple #[.int .i64 r, .int .i64 k]) ∧ Below w.heap.size w w')
    (hL : ∀ w, Calls Tryz.prog 26 #[.int .i64 k] w fun e w' => e = .returned (.int .i64 2) ∧ Below w.heap.size w w')
    (hb : b < 256) (ha : 0 ≤ a) (ha2 : a + 2 ≤ 65536) (hn : 0 ≤ n) (hn2 : n ≤ 65535) (w : World) :
    Calls Tryz.prog 14 #[.agg #[.int .i64 b, .int .i64 n], .int .i64 a] w (BytesEnd w [(b : Int), n % 256] 0) := by
  have HW := Lib.hid hW
  have HF := Lib.hid hF
  have HL := Lib.hid hL
  have e1 : decide (a < 0) = false := decide_eq_false (by omega)
  have e2 : decide (65535 < a) = false := decide_eq_false (by omega)
  have e3 : decide (65536 < a + 2) = false := decide_eq_false (by omega)
  have w1 : IntKind.i64.wrap (a + 2) = a + 2 := IntWalk.i64_in _ (by omega)
  have w4 : IntKind.u8.wrap (b : Int) = b := by rw [IntKind.wrap_u8]; omega
  have w6 : Int.tmod n 256 = n % 256 := Int.tmod_eq_emod_of_nonneg hn
  have w7 : IntKind.u8.wrap (n % 256) = n % 256 := by rw [IntKind.wrap_u8]; omega
  have w8 : IntKind.i64.wrap (n % 256) = n % 256 := IntWalk.i64_in _ (by omega)
  have w9 : Int.tdiv n 256 = n / 256 := Int.tdiv_eq_ediv_of_nonneg hn
  have wa : IntKind.u8.wrap (n / 256) = n / 256 := by rw [IntKind.wrap_u8]; omega
  have wb : IntKind.i64.wrap (n / 256) = n / 256 := IntWalk.i64_in _ (by omega)
  clear hW hF hL ha ha2 hn hn2 hb
  obtain ⟨i0, hi, hz0, hz1, hz2⟩ := info_parts Tryz.infoB
  go_enter Tryz.func14, Tryz.ntmps14
  go_wp2_with fail
  ((with_reducible refine (HW.out _).mono ?_); rintro _ u ⟨rfl, hb⟩)
  have T : u.cell? ⟨w.heap.size, 0, none⟩ = some (.int .i64 b) ∧ u.cell? ⟨w.heap.size, 1, none⟩ = some (.int .i64 n) := by
      refine ⟨?_, ?_⟩ <;> refine kc hb ?_ <;> (go_simp; first | done | rfl)
  have hz := hb.size
  (try simp only [World.size_alloc, World.size_setCell, World.size_drew] at hz)
  have hlx' : w.heap.size < u.heap.size := by omega
  have hB' : Below w.heap.size w u := by
      refine kb ?_ hb
      go_grown
  clear hb hz
  obtain ⟨hx_0, hx_1⟩ := T
  have hlx := hlx'; clear hlx'
  have hnx0 : ¬ (w.heap.size = u.heap.size) := by omega
  have hnx1 : ¬ (w.heap.size = u.heap.size + 1) := by omega
  have hkx1 : w.heap.size < u.heap.size + 1 := by omega
  have hnx2 : ¬ (w.heap.size = u.heap.size + 1 + 1) := by omega
  have hkx2 : w.heap.size < u.heap.size + 1 + 1 := by omega
  have hB := hB'; clear hB'
  have hsz := hB.size
  go_wp2_with fail
  ((with_reducible refine (HF.out _).mono ?_); rintro _ u2 ⟨rfl, hb⟩)
  have T : u2.cell? ⟨w.heap.size, 0, none⟩ = some (.int .i64 b) ∧ u2.cell? ⟨w.heap.size, 1, none⟩ = some (.int .i64 n) := by
      refine ⟨?_, ?_⟩ <;> refine kc hb ?_ <;> (go_simp; first | done | rfl)
  have hz := hb.size
  (try simp only [World.size_alloc, World.size_setCell, World.size_drew] at hz)
  have hlx' : w.heap.size < u2.heap.size := by omega
  have hB' : Below w.heap.size w u2 := by
      refine kb ?_ hb
      go_grown
  clear hx_0 hx_1 hlx hnx0 hnx1 hkx1 hnx2 hkx2 hB hsz
  clear hb hz
  obtain ⟨hx_0, hx_1⟩ := T
  have hlx := hlx'; clear hlx'
  have hnx0 : ¬ (w.heap.size = u2.heap.size) := by omega
  have hnx1 : ¬ (w.heap.size = u2.heap.size + 1) := by omega
  have hkx1 : w.heap.size < u2.heap.size + 1 := by omega
  have hnx2 : ¬ (w.heap.size = u2.heap.size + 1 + 1) := by omega
  have hkx2 : w.heap.size < u2.heap.size + 1 + 1 := by omega
  have hB := hB'; clear hB'
  have hsz := hB.size
  go_wp2_with fail
  ((with_reducible refine (HL.out _).mono ?_); rintro _ u3 ⟨rfl, hb⟩)
  have T : u3.cell? ⟨w.heap.size, 0, none⟩ = some (.int .i64 b) ∧ u3.cell? ⟨w.heap.size, 1, none⟩ = some (.int .i64 n) := by
      refine ⟨?_, ?_⟩ <;> refine kc hb ?_ <;> (go_simp; first | done | rfl)
  have hz := hb.size
  (try simp only [World.size_alloc, World.size_setCell, World.size_drew] at hz)
  have hlx' : w.heap.size < u3.heap.size := by omega
  have hB' : Below w.heap.size w u3 := by
      refine kb ?_ hb
      go_grown
  clear hx_0 hx_1 hlx hnx0 hnx1 hkx1 hnx2 hkx2 hB hsz
  clear hb hz
  obtain ⟨hx_0, hx_1⟩ := T
  have hlx := hlx'; clear hlx'
  have hnx0 : ¬ (w.heap.size = u3.heap.size) := by omega
  have hnx1 : ¬ (w.heap.size = u3.heap.size + 1) := by omega
  have hkx1 : w.heap.size < u3.heap.size + 1 := by omega
  have hnx2 : ¬ (w.heap.size = u3.heap.size + 1 + 1) := by omega
  have hkx2 : w.heap.size < u3.heap.size + 1 + 1 := by omega
  have hB := hB'; clear hB'
  have hsz := hB.size
  have HOwn := Lib.hid (World.ownsRow_lit (e := 5) (size := 1) (base := w.heap.size) u3 #[.int .u8 b] 1 (by omega) (by decide) rfl)
  go_wp2_with (at_builtin; refine wpList_append_own _ rfl _ _ 23 rfl w.heap.size 5 i0 (.int .u8 0) 1 1 Tryz.underlying23 hi hz0 hz1 hz2 rfl (by decide) _ 1 _ rfl (HOwn.out.alloc _) ⟨u3.heap.size + 1, 0, none⟩ 1 1 [.int .u8 (n % 256)] rfl rfl ?c1 ?c2 ?c3 ?c4 ?c5 ?_)
  case c1 =>
    intro j u hj
    match j, hj with
    | 0, hj => simp at hj; subst hj; go_simp
  case c2 => intro u hu; simp at hu; subst hu; rfl
  case c3 => unfold maxLen; omega
  case c4 => omega
  case c5 => simp; omega
  intro v' w' hown' hg _
  have hB' : Below w.heap.size w w' := Below.grown (w := (u3.alloc (Obj.cells #[Value.int IntKind.u8 b] 5)).alloc (Obj.cells #[Value.int IntKind.u8 (n % 256)] 5)) (by go_grown) hg (by simp; omega) (fun k hk => by cases hk; omega)
  have HO' := Lib.hid hown'
  clear hown' hg
  go_wp2
  refine bodyPost_ret (v := .tuple #[v', .int .i64 0]) (by simp [results, Tryz.results14, go_sem]) rfl ⟨v', rfl, HO'.out, hB'⟩
set_option maxRecDepth 100000 in
set_option maxHeartbeats 2000000 in
theorem bytes_three (b : Nat) (n a k : Int) (r : Int) (hk : (k == 12) = false)
    (hW : ∀ w, Calls Tryz.prog 24 #[.agg #[.int .i64 b, .int .i64 n]] w fun e w' => e = .returned (.int .i64 0) ∧ Below w.heap.size w w')
    (hF : ∀ w, Calls Tryz.prog 25 #[.int .i64 b] w fun e w' => e = .returned (.tuple #[.int .i64 r, .int .i64 k]) ∧ Below w.heap.size w w')
    (hL : ∀ w, Calls Tryz.prog 26 #[.int .i64 k] w fun e w' => e = .returned (.int .i64 3) ∧ Below w.heap.size w w')
    (hb : b < 256) (ha : 0 ≤ a) (ha2 : a + 3 ≤ 65536) (hn : 0 ≤ n) (hn2 : n ≤ 65535) (w : World) :
    Calls Tryz.prog 14 #[.agg #[.int .i64 b, .int .i64 n], .int .i64 a] w (BytesEnd w [(b : Int), n % 256, n / 256] 0) := by
  have HW := Lib.hid hW
  have HF := Lib.hid hF
  have HL := Lib.hid hL
  have e1 : decide (a < 0) = false := decide_eq_false (by omega)
  have e2 : decide (65535 < a) = false := decide_eq_false (by omega)
  have e3 : decide (65536 < a + 3) = false := decide_eq_false (by omega)
  have w1 : IntKind.i64.wrap (a + 3) = a + 3 := IntWalk.i64_in _ (by omega)
  have w4 : IntKind.u8.wrap (b : Int) = b := by rw [IntKind.wrap_u8]; omega
  have w6 : Int.tmod n 256 = n % 256 := Int.tmod_eq_emod_of_nonneg hn
  have w7 : IntKind.u8.wrap (n % 256) = n % 256 := by rw [IntKind.wrap_u8]; omega
  have w8 : IntKind.i64.wrap (n % 256) = n % 256 := IntWalk.i64_in _ (by omega)
  have w9 : Int.tdiv n 256 = n / 256 := Int.tdiv_eq_ediv_of_nonneg hn
  have wa : IntKind.u8.wrap (n / 256) = n / 256 := by rw [IntKind.wrap_u8]; omega
  have wb : IntKind.i64.wrap (n / 256) = n / 256 := IntWalk.i64_in _ (by omega)
  clear hW hF hL ha ha2 hn hn2 hb
  obtain ⟨i0, hi, hz0, hz1, hz2⟩ := info_parts Tryz.infoB
  go_enter Tryz.func14, Tryz.ntmps14
  go_wp2_with fail
  ((with_reducible refine (HW.out _).mono ?_); rintro _ u ⟨rfl, hb⟩)
  have T : u.cell? ⟨w.heap.size, 0, none⟩ = some (.int .i64 b) ∧ u.cell? ⟨w.heap.size, 1, none⟩ = some (.int .i64 n) := by
      refine ⟨?_, ?_⟩ <;> refine kc hb ?_ <;> (go_simp; first | done | rfl)
  have hz := hb.size
  (try simp only [World.size_alloc, World.size_setCell, World.size_drew] at hz)
  have hlx' : w.heap.size < u.heap.size := by omega
  have hB' : Below w.heap.size w u := by
      refine kb ?_ hb
      go_grown
  clear hb hz
  obtain ⟨hx_0, hx_1⟩ := T
  have hlx := hlx'; clear hlx'
  have hnx0 : ¬ (w.heap.size = u.heap.size) := by omega
  have hnx1 : ¬ (w.heap.size = u.heap.size + 1) := by omega
  have hkx1 : w.heap.size < u.heap.size + 1 := by omega
  have hnx2 : ¬ (w.heap.size = u.heap.size + 1 + 1) := by omega
  have hkx2 : w.heap.size < u.heap.size + 1 + 1 := by omega
  have hB := hB'; clear hB'
  have hsz := hB.size
  go_wp2_with fail
  ((with_reducible refine (HF.out _).mono ?_); rintro _ u2 ⟨rfl, hb⟩)
  have T : u2.cell? ⟨w.heap.size, 0, none⟩ = some (.int .i64 b) ∧ u2.cell? ⟨w.heap.size, 1, none⟩ = some (.int .i64 n) := by
      refine ⟨?_, ?_⟩ <;> refine kc hb ?_ <;> (go_simp; first | done | rfl)
  have hz := hb.size
  (try simp only [World.size_alloc, World.size_setCell, World.size_drew] at hz)
  have hlx' : w.heap.size < u2.heap.size := by omega
  have hB' : Below w.heap.size w u2 := by
      refine kb ?_ hb
      go_grown
  clear hx_0 hx_1 hlx hnx0 hnx1 hkx1 hnx2 hkx2 hB hsz
  clear hb hz
  obtain ⟨hx_0, hx_1⟩ := T
  have hlx := hlx'; clear hlx'
  have hnx0 : ¬ (w.heap.size = u2.heap.size) := by omega
  have hnx1 : ¬ (w.heap.size = u2.heap.size + 1) := by omega
  have hkx1 : w.heap.size < u2.heap.size + 1 := by omega
  have hnx2 : ¬ (w.heap.size = u2.heap.size + 1 + 1) := by omega
  have hkx2 : w.heap.size < u2.heap.size + 1 + 1 := by omega
  have hB := hB'; clear hB'
  have hsz := hB.size
  go_wp2_with fail
  ((with_reducible refine (HL.out _).mono ?_); rintro _ u3 ⟨rfl, hb⟩)
  have T : u3.cell? ⟨w.heap.size, 0, none⟩ = some (.int .i64 b) ∧ u3.cell? ⟨w.heap.size, 1, none⟩ = some (.int .i64 n) := by
      refine ⟨?_, ?_⟩ <;> refine kc hb ?_ <;> (go_simp; first | done | rfl)
  have hz := hb.size
  (try simp only [World.size_alloc, World.size_setCell, World.size_drew] at hz)
  have hlx' : w.heap.size < u3.heap.size := by omega
  have hB' : Below w.heap.size w u3 := by
      refine kb ?_ hb
      go_grown
  clear hx_0 hx_1 hlx hnx0 hnx1 hkx1 hnx2 hkx2 hB hsz
  clear hb hz
  obtain ⟨hx_0, hx_1⟩ := T
  have hlx := hlx'; clear hlx'
  have hnx0 : ¬ (w.heap.size = u3.heap.size) := by omega
  have hnx1 : ¬ (w.heap.size = u3.heap.size + 1) := by omega
  have hkx1 : w.heap.size < u3.heap.size + 1 := by omega
  have hnx2 : ¬ (w.heap.size = u3.heap.size + 1 + 1) := by omega
  have hkx2 : w.heap.size < u3.heap.size + 1 + 1 := by omega
  have hB := hB'; clear hB'
  have hsz := hB.size
  have HOwn := Lib.hid (World.ownsRow_lit (e := 5) (size := 1) (base := w.heap.size) u3 #[.int .u8 b] 1 (by omega) (by decide) rfl)
  go_wp2_with (at_builtin; refine wpList_append_own _ rfl _ _ 23 rfl w.heap.size 5 i0 (.int .u8 0) 1 1 Tryz.underlying23 hi hz0 hz1 hz2 rfl (by decide) _ 1 _ rfl (HOwn.out.alloc _) ⟨u3.heap.size + 1, 0, none⟩ 1 1 [.int .u8 (n % 256)] rfl rfl ?c1 ?c2 ?c3 ?c4 ?c5 ?_)
  case c1 =>
    intro j u hj
    match j, hj with
    | 0, hj => simp at hj; subst hj; go_simp
  case c2 => intro u hu; simp at hu; subst hu; rfl
  case c3 => unfold maxLen; omega
  case c4 => omega
  case c5 => simp; omega
  intro v' w' hown' hg _
  have hB' : Below w.heap.size w w' := Below.grown (w := (u3.alloc (Obj.cells #[Value.int IntKind.u8 b] 5)).alloc (Obj.cells #[Value.int IntKind.u8 (n % 256)] 5)) (by go_grown) hg (by simp; omega) (fun k hk => by cases hk; omega)
  have hx2 : w'.cell? ⟨w.heap.size, 1, none⟩ = some (.int .i64 n) := (World.cell?_of_block (hg.block w.heap.size (by simp; omega) (fun e => by have h9 : w.heap.size = u3.heap.size := Option.some.inj e; omega))).trans (by go_simp)
  have hsz' : w.heap.size ≤ w'.heap.size := hB'.size
  obtain ⟨g, cap, rfl⟩ := ownsRow_form hown' (by decide)
  have hlt' := (hown'.lt g rfl).2
  have HO' := Lib.hid hown'
  clear hown' hg hx_0 hx_1
  go_wp2_with (at_builtin; refine wpList_append_own _ rfl _ _ 23 rfl w.heap.size 5 i0 (.int .u8 0) 1 1 Tryz.underlying23 hi hz0 hz1 hz2 rfl (by decide) _ 2 _ rfl (HO'.out.alloc _) ⟨w'.heap.size, 0, none⟩ 1 1 [.int .u8 (n / 256)] rfl rfl ?d1 ?d2 ?d3 ?d4 ?d5 ?_)
  case d1 =>
    intro j u hj
    match j, hj with
    | 0, hj => simp at hj; subst hj; go_simp
  case d2 => intro u hu; simp at hu; subst hu; rfl
  case d3 => unfold maxLen; omega
  case d4 => omega
  case d5 => simp; omega
  intro v2 w2 hown2 hg2 _
  have hB2 : Below w.heap.size w w2 := Below.grown (w := w'.alloc (Obj.cells #[Value.int IntKind.u8 (n / 256)] 5)) (hB'.alloc hsz' _) hg2 (by simp; omega) (fun k hk => by cases hk; exact (HO'.out.lt g rfl).1)
  have HO2 := Lib.hid hown2
  clear hown2 hg2
  go_wp2
  refine bodyPost_ret (v := .tuple #[v2, .int .i64 0]) (by simp [results, Tryz.results14, go_sem]) rfl ⟨v2, rfl, HO2.out, hB2⟩
end Go.Proofs.YtpjpoopgafcedaaGreatDoor
