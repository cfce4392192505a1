/-
  Layer 8's document: Load.
  Layer 8's document: Label.
-/
import Derived.Test.YtcnejgilmciljaaDoorDbm13
set_option linter.unusedSimpArgs false
set_option linter.unusedVariables false
namespace Go.Proofs.YtcnejgilmciljaaDoor
open Go.RowKit Go.PlainAid

/-- Bytes, not secret, from an address on. -/
def putsP (a : Int) : List Int → List Pt
  | [] => []
  | b :: r => ⟨a, b, 0⟩ :: putsP (a + 1) r
theorem putsP_snoc (b : Int) : ∀ (l : List Int) (a : Int), putsP a (l ++ [b]) = putsP a l ++ [⟨a + l.length, b, 0⟩]
  | [], a => by simp [putsP]
  | x :: r, a => by
    rw [List.cons_append, putsP, putsP, putsP_snoc b r (a + 1), List.cons_append]
    simp only [List.length_cons]
    rw [show a + 1 + (r.length : Int) = a + ((r.length + 1 : Nat) : Int) by omega]
theorem putsP_len : ∀ (l : List Int) (a : Int), (putsP a l).length = l.length
  | [], a => rfl
  | x :: r, a => by rw [putsP, List.length_cons, List.length_cons, putsP_len r]
def byE (x : Int) : List Value := [.int .u8 x]
abbrev HoldsB := HoldsW byE 1
def loadP (L : List Pt) (a : Int) (bs : List Int) : Int × List Pt := if ((!ramB a && !romB a) || (decide ((0 : Int) < (bs.length : Int)) && !oneB a (a + bs.length - 1))) = true then (10, L) else (0, L ++ putsP a bs)
end Go.Proofs.YtcnejgilmciljaaDoor
set_option linter.unusedSimpArgs false
set_option linter.unusedVariables false
namespace Go.Proofs.YtcnejgilmciljaaDoor
open Go.RowKit Go.PlainAid

/-- A call of a known value, as a step of a region that draws. -/
theorem step_call {P : Program} {ops : Array Oper} {o : Oper} {a : Act} {w : World} {K : Act → World → Prop} {Q : Exit → Act → World → Prop} {E : Prop} (hgd : o.guard = none) {f : FuncId} {args : Array Value} {v : Value}
    (hx : (execOp a.eval o).run P w = .ok (.enter f args) w) (hc : Calls P f args w fun e w' => e = .returned v ∧ Below w.heap.size w w') (hK : ∀ w', Below w.heap.size w w' → K (a.put o.dst v) w') :
    if Region.wanted o (yielded ops a.tmps) = true then Oper.wp P o a w K Q else E := by
  have hw : Region.wanted o (yielded ops a.tmps) = true := by simp [Region.wanted, hgd]
  rw [if_pos hw]
  unfold Oper.wp
  rw [hx]
  exact hc.mono fun e w'' he => by obtain ⟨rfl, hb⟩ := he; exact hK w'' hb
theorem field_v (x y : Int) (W : World) : (Instr.field 23 (.agg #[.int .u8 x, .int .u8 y]) 0).run Tryd.prog W = .ok (.int .u8 x) W := by kernel_rfl
/-- As many labels from an address on. -/
def labsP : Nat → List Pt → Int → Int → List Pt
  | 0, L, _, _ => L
  | n + 1, L, a, t => labsP n (L ++ [⟨a, (atP L a).1, t⟩]) (a + 1) t
def labelP (L : List Pt) (fr to' t : Int) : Int × List Pt := if (decide (to' < fr) || !oneB fr to') = true then (10, L) else (0, labsP (to' - fr + 1).toNat L fr t)
end Go.Proofs.YtcnejgilmciljaaDoor
