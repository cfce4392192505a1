/-
  Layer 8's document: which addresses are of which kind.
  Layer 8's document: its row of what was put where, and the byte at an address.
  Layer 8's document: Read, and Write.
  Layer 8's document: one more put; Write.
  Layer 8's document: Load.
  Layer 8's document: Label.
-/
import Derived.Test.YtcilnbkmaoneaaaDoorBase
import Derived.Test.YtcilnbkmaoneaaaDoorEnts
import Derived.Deep.DeepCutAuto
set_option linter.unusedSimpArgs false
set_option linter.unusedVariables false
namespace Go.Proofs.YtcilnbkmaoneaaaDoor
open Go.RowKit Go.PlainAid

def ramB (a : Int) : Bool := decide (0 ≤ a) && decide (a < 32768)
def romB (a : Int) : Bool := decide (49152 ≤ a) && decide (a < 65536)
def devB (a : Int) : Bool := decide (32768 ≤ a) && decide (a < 32784)
def oneB (a b : Int) : Bool := (ramB a && ramB b) || (romB a && romB b)
end Go.Proofs.YtcilnbkmaoneaaaDoor
set_option linter.unusedSimpArgs false
set_option linter.unusedVariables false
namespace Go.Proofs.YtcilnbkmaoneaaaDoor
open Go.RowKit Go.PlainAid

/-- What was put: where, and the byte's two numbers. -/
structure Pt where
  a : Int
  v : Int
  t : Int
instance : Inhabited Pt := ⟨⟨0, 0, 0⟩⟩
def Pt.cells (x : Pt) : List Value := [.int .i64 x.a, .int .u8 x.v, .int .u8 x.t]
theorem pt_len (x : Pt) : x.cells.length = 3 := rfl
theorem pt_one (x : Pt) : ∀ u ∈ x.cells, u.oneCell' = true := by
  intro u hu
  simp only [Pt.cells, List.mem_cons, List.not_mem_nil, or_false] at hu
  rcases hu with rfl | rfl | rfl <;> rfl
/-- The last of the first k that was put there. -/
def lastK (L : List Pt) (a : Int) : Nat → Int × Int
  | 0 => (0, 0)
  | k + 1 => match L[k]? with
    | some x => if x.a = a then (x.v, x.t) else lastK L a k
    | none => lastK L a k
def lastP (L : List Pt) (a : Int) : Int × Int := lastK L a L.length
def atP (L : List Pt) (a : Int) : Int × Int := if ramB a = false ∧ romB a = false then (255, 0) else lastP L a
theorem get3p {w : World} {g o k : Nat} {l : List Pt} {x : Pt} (h : ∀ j (x : Pt), l[j]? = some x → ∀ i u, x.cells[i]? = some u → w.cell? ⟨g, o + j * 3 + i, none⟩ = some u) (hx : l[k]? = some x) :
    w.cell? ⟨g, o + k * 3, none⟩ = some (.int .i64 x.a) ∧ w.cell? ⟨g, o + k * 3 + 1, none⟩ = some (.int .u8 x.v) ∧ w.cell? ⟨g, o + k * 3 + 2, none⟩ = some (.int .u8 x.t) :=
  ⟨h k x hx 0 _ rfl, h k x hx 1 _ rfl, h k x hx 2 _ rfl⟩
end Go.Proofs.YtcilnbkmaoneaaaDoor
set_option linter.unusedSimpArgs false
set_option linter.unusedVariables false
namespace Go.Proofs.YtcilnbkmaoneaaaDoor
open Go.RowKit Go.PlainAid

/-- What Read answers: the byte's numbers, and the error. -/
structure RdO where
  v : Int
  t : Int
  e : Int
def readP (L : List Pt) (a : Int) : RdO := if a < 0 ∨ 65535 < a then ⟨0, 0, 10⟩ else if devB a = true then ⟨0, 0, 15⟩ else ⟨(atP L a).1, (atP L a).2, 0⟩
theorem rdO_ret {w w' : World} {o : RdO} {v t e : Int} (h : o = ⟨v, t, e⟩) (hb : Below w.heap.size w w') : (Ending.returned (.tuple #[.agg #[.int .u8 v, .int .u8 t], .int .i64 e]) = .returned (.tuple #[.agg #[.int .u8 o.v, .int .u8 o.t], .int .i64 o.e])) ∧ Below w.heap.size w w' := by
  subst h; exact ⟨rfl, hb⟩
end Go.Proofs.YtcilnbkmaoneaaaDoor
set_option linter.unusedSimpArgs false
set_option linter.unusedVariables false
namespace Go.Proofs.YtcilnbkmaoneaaaDoor
open Go.RowKit Go.PlainAid

theorem pt_cells_at {W : World} (T : TypeId) (x : Pt) : ∀ j u, ([x].flatMap Pt.cells)[j]? = some u → (W.alloc (.cells #[.int .i64 x.a, .int .u8 x.v, .int .u8 x.t] T)).cell? ((⟨W.heap.size, 0, none⟩ : Addr).add j) = some u := by
  intro j u h
  rw [Addr.add_lit, Nat.zero_add]
  have hh := heap_alloc_new W (.cells #[.int .i64 x.a, .int .u8 x.v, .int .u8 x.t] T)
  simp only [World.cell?, hh]
  rw [← h]
  simp [Pt.cells]
/-- What has stayed but for the memory's block and its row. -/
structure Kp (rb S0 : Nat) (w w' : World) : Prop where
  below : Below rb w w'
  keep : ∀ b, b < S0 → b ≠ rb → w'.heap[b]? = w.heap[b]?
theorem Kp.of_below {rb S0 : Nat} {w u : World} (h : Below w.heap.size w u) (h1 : rb < S0) (h2 : S0 ≤ w.heap.size) : Kp rb S0 w u := ⟨h.mono (by omega), fun b hb _ => h.block b (by omega)⟩
theorem Kp.trans {rb S0 : Nat} {a b c : World} (h : Kp rb S0 a b) (g : Kp rb S0 b c) : Kp rb S0 a c := ⟨h.below.trans g.below, fun k h1 h2 => (g.keep k h1 h2).trans (h.keep k h1 h2)⟩
theorem Kp.cell {rb S0 : Nat} {w u : World} (h : Kp rb S0 w u) {b o : Nat} {v : Value} (hb : b < S0) (hne : b ≠ rb) (hc : w.cell? ⟨b, o, none⟩ = some v) : u.cell? ⟨b, o, none⟩ = some v := (World.cell?_of_block (h.keep b hb hne)).trans hc
theorem Kp.frozen {rb S0 : Nat} {w u : World} (h : Kp rb S0 w u) {b o : Nat} {x : Bool} (hb : b < S0) (hne : b ≠ rb) (hc : w.frozen? ⟨b, o, none⟩ = x) : u.frozen? ⟨b, o, none⟩ = x := (World.frozen?_of_block (h.keep b hb hne)).trans hc
def writeP (L : List Pt) (x : Pt) : Int × List Pt := if x.a < 0 ∨ 65535 < x.a then (10, L) else if devB x.a = true then (15, L) else if ramB x.a = true then (0, L ++ [x]) else (0, L)
end Go.Proofs.YtcilnbkmaoneaaaDoor
set_option linter.unusedSimpArgs false
set_option linter.unusedVariables false
namespace Go.Proofs.YtcilnbkmaoneaaaDoor
open Go.RowKit Go.PlainAid

/-- Bytes, not secret, from an address on. -/
def putsP (a : Int) : List Int → List Pt
  | [] => []
  | b :: r => ⟨a, b, 0⟩ :: putsP (a + 1) r
theorem putsP_snoc (b : Int) : ∀ (l : List Int) (a : Int), putsP a (l ++ [b]) = putsP a l ++ [⟨a + l.length, b, 0⟩]
  | [], a => by simp [putsP]
  | x :: r, a => by
    rw [List.cons_append, putsP, putsP, putsP_snoc b r (a + 1), List.cons_append]
    simp only [List.length_cons]
    rw [show a + 1 + (r.length : Int) = a + ((r.length + 1 : Nat) : Int) by omega]
theorem putsP_len : ∀ (l : List Int) (a : Int), (putsP a l).length = l.length
  | [], a => rfl
  | x :: r, a => by rw [putsP, List.length_cons, List.length_cons, putsP_len r]
def byE (x : Int) : List Value := [.int .u8 x]
abbrev HoldsB := HoldsW byE 1
def loadP (L : List Pt) (a : Int) (bs : List Int) : Int × List Pt := if ((!ramB a && !romB a) || (decide ((0 : Int) < (bs.length : Int)) && !oneB a (a + bs.length - 1))) = true then (10, L) else (0, L ++ putsP a bs)
end Go.Proofs.YtcilnbkmaoneaaaDoor
set_option linter.unusedSimpArgs false
set_option linter.unusedVariables false
namespace Go.Proofs.YtcilnbkmaoneaaaDoor
open Go.RowKit Go.PlainAid

/-- A call of a known value, as a step of a region that draws. -/
theorem step_call {P : Program} {ops : Array Oper} {o : Oper} {a : Act} {w : World} {K : Act → World → Prop} {Q : Exit → Act → World → Prop} {E : Prop} (hgd : o.guard = none) {f : FuncId} {args : Array Value} {v : Value}
    (hx : (execOp a.eval o).run P w = .ok (.enter f args) w) (hc : Calls P f args w fun e w' => e = .returned v ∧ Below w.heap.size w w') (hK : ∀ w', Below w.heap.size w w' → K (a.put o.dst v) w') :
    if Region.wanted o (yielded ops a.tmps) = true then Oper.wp P o a w K Q else E := by
  have hw : Region.wanted o (yielded ops a.tmps) = true := by simp [Region.wanted, hgd]
  rw [if_pos hw]
  unfold Oper.wp
  rw [hx]
  exact hc.mono fun e w'' he => by obtain ⟨rfl, hb⟩ := he; exact hK w'' hb
theorem field_v (x y : Int) (W : World) : (Instr.field 42 (.agg #[.int .u8 x, .int .u8 y]) 0).run Tryd.prog W = .ok (.int .u8 x) W := by kernel_rfl
/-- As many labels from an address on. -/
def labsP : Nat → List Pt → Int → Int → List Pt
  | 0, L, _, _ => L
  | n + 1, L, a, t => labsP n (L ++ [⟨a, (atP L a).1, t⟩]) (a + 1) t
def labelP (L : List Pt) (fr to' t : Int) : Int × List Pt := if (decide (to' < fr) || !oneB fr to') = true then (10, L) else (0, labsP (to' - fr + 1).toNat L fr t)
end Go.Proofs.YtcilnbkmaoneaaaDoor
