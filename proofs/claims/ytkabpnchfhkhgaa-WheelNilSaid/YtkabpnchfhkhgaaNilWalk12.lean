/-
  WheelNil: its walk.
-/
import Derived.Test.YtkabpnchfhkhgaaRolls12
import Derived.Test.YtkabpnchfhkhgaaPlanXD
set_option linter.unusedSimpArgs false
set_option linter.unusedVariables false
namespace Go.Proofs.Ytkabpnchfhkhgaa
open Go.RowKit Go.PlainAid

theorem sameW_comm (R T : Wh) : sameW R T = sameW T R := by
  unfold sameW
  rw [decide_eq_decide.2 (eq_comm (a := R.x)), decide_eq_decide.2 (eq_comm (a := R.y)), decide_eq_decide.2 (eq_comm (a := R.q)), decide_eq_decide.2 (eq_comm (a := R.b))]
/-- The cells of a call. -/
def OpN (g o : Nat) (a b c : Int) (W : World) : Prop := W.cell? ⟨g, o, none⟩ = some (.int .i64 a) ∧ W.cell? ⟨g, o + 1, none⟩ = some (.int .u8 b) ∧ W.cell? ⟨g, o + 2, none⟩ = some (.int .u8 c)
/-- Two wheels beside a pair of slices. -/
structure NilI (w : World) (vb wb lb : Nat) (a b : Value) (R T : Wh) (wr : World) : Prop where
  pv : Pw vb R wr
  pw : Pw wb T wr
  mv : R.May
  mw : T.May
  c0 : wr.cell? ⟨lb, 0, none⟩ = some a
  c1 : wr.cell? ⟨lb, 1, none⟩ = some b
  bel : Below w.heap.size w wr
  ge : w.heap.size ≤ vb ∧ w.heap.size ≤ wb ∧ w.heap.size ≤ lb
  ne : vb ≠ wb ∧ vb ≠ lb ∧ wb ≠ lb
section
variable {w wr u : World} {vb wb lb : Nat} {a b : Value} {R R' T : Wh}
theorem NilI.below (h : NilI w vb wb lb a b R T wr) (hb : Below wr.heap.size wr u) : NilI w vb wb lb a b R T u :=
  ⟨h.pv.below hb, h.pw.below hb, h.mv, h.mw, kc hb h.c0, kc hb h.c1, h.bel.trans (hb.mono h.bel.size), h.ge, h.ne⟩
theorem NilI.stepV (h : NilI w vb wb lb a b R T wr) (hp : Pw vb R' u) (hm : R'.May) (hf : Fr (fun k => k = vb) wr u) : NilI w vb wb lb a b R' T u :=
  ⟨hp, h.pw.fr hf (fun e => h.ne.1 e.symm), hm, h.mw, hf.cell h.c0 (fun e => h.ne.2.1 e.symm), hf.cell h.c1 (fun e => h.ne.2.1 e.symm), Fr.toBelow h.bel hf (fun k e => by subst e; exact h.ge.1) (Nat.le_refl _), h.ge, h.ne⟩
theorem NilI.stepW (h : NilI w vb wb lb a b R T wr) (hp : Pw wb R' u) (hm : R'.May) (hf : Fr (fun k => k = wb) wr u) : NilI w vb wb lb a b R R' u :=
  ⟨h.pv.fr hf (fun e => h.ne.1 e), hp, h.mv, hm, hf.cell h.c0 (fun e => h.ne.2.2 e.symm), hf.cell h.c1 (fun e => h.ne.2.2 e.symm), Fr.toBelow h.bel hf (fun k e => by subst e; exact h.ge.2.1) (Nat.le_refl _), h.ge, h.ne⟩
end
set_option maxRecDepth 100000 in
theorem wsame_nil (w : World) : Calls Try.prog 10 #[.pointer none, .pointer none] w fun e w' => e = .returned (.bool true) ∧ Below w.heap.size w w' := by
  go_enter Try.func10, Try.ntmps10
  go_wp2
  refine bodyPost_ret (v := .bool true) (by simp [results, Try.results10, go_sem] <;> first | done | rfl) rfl ?_
  exact ⟨rfl, by go_grown⟩
theorem eql_nil_ptr (P : Program) (t : TypeId) (a : Addr) (W : World) (h : P.underlying t = some (.pointer (P.pointee t))) : (binOp .eql t (.pointer none) (.pointer (some a))).run P W = .ok (.bool false) W := by
  have e0 : ∀ d, (Op.equalIn (d + 1) t (.pointer none) (.pointer (some a))).run P W = .ok false W := fun d => by simp [Op.equalIn, run_underlying h]
  have e : (Op.equal t (.pointer none) (.pointer (some a))).run P W = .ok false W := e0 9999
  simp only [binOp]
  simp [e]
set_option maxRecDepth 100000 in
theorem wsame_nilv (vb : Nat) (w : World) : Calls Try.prog 10 #[.pointer none, .pointer (some ⟨vb, 0, none⟩)] w fun e w' => e = .returned (.bool false) ∧ Below w.heap.size w w' := by
  have hq := fun W => eql_nil_ptr Try.prog 23 ⟨vb, 0, none⟩ W (by kernel_rfl)
  go_enter Try.func10, Try.ntmps10
  go_wp2
  refine bodyPost_ret (v := .bool false) (by simp [results, Try.results10, go_sem] <;> first | done | rfl) rfl ?_
  exact ⟨rfl, by go_grown⟩
set_option maxRecDepth 100000 in
theorem wsame_vnil (vb : Nat) (w : World) : Calls Try.prog 10 #[.pointer (some ⟨vb, 0, none⟩), .pointer none] w fun e w' => e = .returned (.bool false) ∧ Below w.heap.size w w' := by
  go_enter Try.func10, Try.ntmps10
  go_wp2
  refine bodyPost_ret (v := .bool false) (by simp [results, Try.results10, go_sem] <;> first | done | rfl) rfl ?_
  exact ⟨rfl, by go_grown⟩
end Go.Proofs.Ytkabpnchfhkhgaa
