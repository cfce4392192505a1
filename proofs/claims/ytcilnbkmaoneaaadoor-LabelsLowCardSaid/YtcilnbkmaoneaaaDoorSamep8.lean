/-
  The program: Same, of bytes and of memories.
-/
import Derived.Test.YtcilnbkmaoneaaaDoorNewp8
set_option linter.unusedSimpArgs false
set_option linter.unusedVariables false
namespace Go.Proofs.YtcilnbkmaoneaaaDoor
open Go.RowKit Go.PlainAid

section
variable {P : Program} {ops : Array Oper} {S : World → Prop} {K : Act → Prop} {o : Oper} {r : List Oper} {a : Act}
theorem run_load_op {ty : TypeId} {x : Operand} (p : Value) {v : Value} {w : World} (ho : o.op = .load ty x) (hx : a.eval x = p) (hr : (Instr.loadAt ty p).run P w = .ok v w) : (execOp a.eval o).run P w = .ok (.value v) w := by
  unfold execOp
  simp only [ho, hx, Sem.run_bind, hr, Result.andThen_ok, Sem.run_pure]
theorem run_eql_op {ty t2 : TypeId} {x y : Operand} (A B : Array Value) {v : Value} {w : World} (ho : o.op = .binOp .eql ty x y t2) (hx : a.eval x = .agg A) (hy : a.eval y = .agg B) (hm : P.eqGuardType P.depth ty = false)
    (hr : (binOp .eql ty (.agg A) (.agg B)).run P w = .ok v w) : (execOp a.eval o).run P w = .ok (.value v) w := by
  unfold execOp
  simp only [ho, hx, hy, Sem.run_bind, run_eqGuard_agg w .eql ty x y A B hm, hr, Result.andThen_ok, Sem.run_pure]
theorem Plan.loadBig {ty : TypeId} {x : Operand} (p v : Value) (hw : Region.wanted o (yielded ops a.tmps) = true) (ho : o.op = .load ty x) (hx : a.eval x = p) (hr : ∀ w, S w → (Instr.loadAt ty p).run P w = .ok v w)
    (h : Plan P ops S K r (a.put o.dst v)) : Plan P ops S K (o :: r) a := Plan.val hw (fun w hS => run_load_op p ho hx (hr w hS)) h
theorem Plan.eqlBig {ty t2 : TypeId} {x y : Operand} (A B : Array Value) (v : Value) (hw : Region.wanted o (yielded ops a.tmps) = true) (ho : o.op = .binOp .eql ty x y t2) (hx : a.eval x = .agg A) (hy : a.eval y = .agg B) (hm : P.eqGuardType P.depth ty = false)
    (hr : ∀ w, S w → (binOp .eql ty (.agg A) (.agg B)).run P w = .ok v w) (h : Plan P ops S K r (a.put o.dst v)) : Plan P ops S K (o :: r) a := Plan.val hw (fun w hS => run_eql_op A B ho hx hy hm (hr w hS)) h
end
def sameI (a b : Int × Int) : Bool := (a.2 == b.2) && (bits .andNot .u8 a.1 a.2 == bits .andNot .u8 b.1 b.2)
theorem sameI_refl (a : Int × Int) : sameI a a = true := by unfold sameI; simp
def sameM (M N : Int → Int × Int) : Bool := (List.range 65536).all fun k => sameI (M k) (N k)
theorem sameM_iff (M N : Int → Int × Int) : sameM M N = true ↔ ∀ k : Nat, k < 65536 → sameI (M k) (N k) = true := by
  unfold sameM
  rw [List.all_eq_true]
  exact ⟨fun h k hk => h k (List.mem_range.2 hk), fun h k hk => h k (List.mem_range.1 hk)⟩
theorem sameM_refl (M : Int → Int × Int) : sameM M M = true := (sameM_iff M M).2 fun k _ => sameI_refl _
theorem eq_same {M N : Int → Int × Int} (h : eqM M N = true) : sameM M N = true := (sameM_iff M N).2 fun k hk => by rw [(eqM_iff M N).1 h k hk]; exact sameI_refl _
theorem guard_arr : Tryd.prog.eqGuardType Tryd.prog.depth 85 = false := by kernel_rfl
end Go.Proofs.YtcilnbkmaoneaaaDoor
