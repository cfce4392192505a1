/-
  Layer 8's document: Read, and Write.
  Layer 8's document: one more put; Write.
  The document's bus: Write of its memory; a wheel's byte; which secret would be written where all may read.
-/
import Derived.Test.YtcnejgilmciljaaDoorAt8
import Derived.Test.YtcnejgilmciljaaDoorDbw13
import Derived.Test.YtcnejgilmciljaaDoorDbt13
set_option linter.unusedSimpArgs false
set_option linter.unusedVariables false
namespace Go.Proofs.YtcnejgilmciljaaDoor
open Go.RowKit Go.PlainAid

/-- What Read answers: the byte's numbers, and the error. -/
structure RdO where
  v : Int
  t : Int
  e : Int
def readP (L : List Pt) (a : Int) : RdO := if a < 0 ∨ 65535 < a then ⟨0, 0, 10⟩ else if devB a = true then ⟨0, 0, 15⟩ else ⟨(atP L a).1, (atP L a).2, 0⟩
theorem rdO_ret {w w' : World} {o : RdO} {v t e : Int} (h : o = ⟨v, t, e⟩) (hb : Below w.heap.size w w') : (Ending.returned (.tuple #[.agg #[.int .u8 v, .int .u8 t], .int .i64 e]) = .returned (.tuple #[.agg #[.int .u8 o.v, .int .u8 o.t], .int .i64 o.e])) ∧ Below w.heap.size w w' := by
  subst h; exact ⟨rfl, hb⟩
end Go.Proofs.YtcnejgilmciljaaDoor
set_option linter.unusedSimpArgs false
set_option linter.unusedVariables false
namespace Go.Proofs.YtcnejgilmciljaaDoor
open Go.RowKit Go.PlainAid

theorem pt_cells_at {W : World} (T : TypeId) (x : Pt) : ∀ j u, ([x].flatMap Pt.cells)[j]? = some u → (W.alloc (.cells #[.int .i64 x.a, .int .u8 x.v, .int .u8 x.t] T)).cell? ((⟨W.heap.size, 0, none⟩ : Addr).add j) = some u := by
  intro j u h
  rw [Addr.add_lit, Nat.zero_add]
  have hh := heap_alloc_new W (.cells #[.int .i64 x.a, .int .u8 x.v, .int .u8 x.t] T)
  simp only [World.cell?, hh]
  rw [← h]
  simp [Pt.cells]
/-- What has stayed but for the memory's block and its row. -/
structure Kp (rb S0 : Nat) (w w' : World) : Prop where
  below : Below rb w w'
  keep : ∀ b, b < S0 → b ≠ rb → w'.heap[b]? = w.heap[b]?
  rest : ∀ o, o ≠ 0 → w'.cell? ⟨rb, o, none⟩ = w.cell? ⟨rb, o, none⟩ ∧ w'.frozen? ⟨rb, o, none⟩ = w.frozen? ⟨rb, o, none⟩
theorem Kp.of_below {rb S0 : Nat} {w u : World} (h : Below w.heap.size w u) (h1 : rb < S0) (h2 : S0 ≤ w.heap.size) : Kp rb S0 w u := ⟨h.mono (by omega), fun b hb _ => h.block b (by omega), fun o _ => ⟨(bcell h).1 _ _ (by omega), (bcell h).2 _ _ (by omega)⟩⟩
theorem Kp.trans {rb S0 : Nat} {a b c : World} (h : Kp rb S0 a b) (g : Kp rb S0 b c) : Kp rb S0 a c := ⟨h.below.trans g.below, fun k h1 h2 => (g.keep k h1 h2).trans (h.keep k h1 h2), fun o ho => ⟨(g.rest o ho).1.trans (h.rest o ho).1, (g.rest o ho).2.trans (h.rest o ho).2⟩⟩
theorem Kp.cell {rb S0 : Nat} {w u : World} (h : Kp rb S0 w u) {b o : Nat} {v : Value} (hb : b < S0) (hne : b ≠ rb) (hc : w.cell? ⟨b, o, none⟩ = some v) : u.cell? ⟨b, o, none⟩ = some v := (World.cell?_of_block (h.keep b hb hne)).trans hc
theorem Kp.frozen {rb S0 : Nat} {w u : World} (h : Kp rb S0 w u) {b o : Nat} {x : Bool} (hb : b < S0) (hne : b ≠ rb) (hc : w.frozen? ⟨b, o, none⟩ = x) : u.frozen? ⟨b, o, none⟩ = x := (World.frozen?_of_block (h.keep b hb hne)).trans hc
def writeP (L : List Pt) (x : Pt) : Int × List Pt := if x.a < 0 ∨ 65535 < x.a then (10, L) else if devB x.a = true then (15, L) else if ramB x.a = true then (0, L ++ [x]) else (0, L)
end Go.Proofs.YtcnejgilmciljaaDoor
set_option linter.unusedSimpArgs false
set_option linter.unusedVariables false
namespace Go.Proofs.YtcnejgilmciljaaDoor
open Go.RowKit Go.PlainAid

/-- A wheel's byte by its register. -/
def whB (R : Wh) (reg : Int) : Int := if reg = 1 then R.x % 256 else if reg = 2 then R.y % 256 else R.b
/-- Whether a secret would be written where all may read, but for ports. -/
def sinkB (a t : Int) : Bool := devB a && (decide (a < 32772) || decide (32777 ≤ a)) && decide (0 < t)
end Go.Proofs.YtcnejgilmciljaaDoor
