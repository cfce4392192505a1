/-
  Layer 8's document: which addresses are of which kind.
  Layer 8's document: its row of what was put where, and the byte at an address.
-/
import Derived.Test.YtcnejgilmciljaaDoorEnts
import Derived.Deep.DeepCutAuto
set_option linter.unusedSimpArgs false
set_option linter.unusedVariables false
namespace Go.Proofs.YtcnejgilmciljaaDoor
open Go.RowKit Go.PlainAid

def ramB (a : Int) : Bool := decide (0 ≤ a) && decide (a < 32768)
def romB (a : Int) : Bool := decide (49152 ≤ a) && decide (a < 65536)
def devB (a : Int) : Bool := decide (32768 ≤ a) && decide (a < 32784)
def oneB (a b : Int) : Bool := (ramB a && ramB b) || (romB a && romB b)
end Go.Proofs.YtcnejgilmciljaaDoor
set_option linter.unusedSimpArgs false
set_option linter.unusedVariables false
namespace Go.Proofs.YtcnejgilmciljaaDoor
open Go.RowKit Go.PlainAid

/-- What was put: where, and the byte's two numbers. -/
structure Pt where
  a : Int
  v : Int
  t : Int
instance : Inhabited Pt := ⟨⟨0, 0, 0⟩⟩
def Pt.cells (x : Pt) : List Value := [.int .i64 x.a, .int .u8 x.v, .int .u8 x.t]
theorem pt_len (x : Pt) : x.cells.length = 3 := rfl
theorem pt_one (x : Pt) : ∀ u ∈ x.cells, u.oneCell' = true := by
  intro u hu
  simp only [Pt.cells, List.mem_cons, List.not_mem_nil, or_false] at hu
  rcases hu with rfl | rfl | rfl <;> rfl
/-- The last of the first k that was put there. -/
def lastK (L : List Pt) (a : Int) : Nat → Int × Int
  | 0 => (0, 0)
  | k + 1 => match L[k]? with
    | some x => if x.a = a then (x.v, x.t) else lastK L a k
    | none => lastK L a k
def lastP (L : List Pt) (a : Int) : Int × Int := lastK L a L.length
def atP (L : List Pt) (a : Int) : Int × Int := if ramB a = false ∧ romB a = false then (255, 0) else lastP L a
theorem get3p {w : World} {g o k : Nat} {l : List Pt} {x : Pt} (h : ∀ j (x : Pt), l[j]? = some x → ∀ i u, x.cells[i]? = some u → w.cell? ⟨g, o + j * 3 + i, none⟩ = some u) (hx : l[k]? = some x) :
    w.cell? ⟨g, o + k * 3, none⟩ = some (.int .i64 x.a) ∧ w.cell? ⟨g, o + k * 3 + 1, none⟩ = some (.int .u8 x.v) ∧ w.cell? ⟨g, o + k * 3 + 2, none⟩ = some (.int .u8 x.t) :=
  ⟨h k x hx 0 _ rfl, h k x hx 1 _ rfl, h k x hx 2 _ rfl⟩
end Go.Proofs.YtcnejgilmciljaaDoor
