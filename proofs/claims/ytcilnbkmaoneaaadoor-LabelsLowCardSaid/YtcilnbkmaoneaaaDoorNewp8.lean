/-
  The program: New, Clone.
-/
import Derived.Test.YtcilnbkmaoneaaaDoorLabelp8
import Derived.Deep.WholeRow
set_option linter.unusedSimpArgs false
set_option linter.unusedVariables false
namespace Go.Proofs.YtcilnbkmaoneaaaDoor
open Go.RowKit Go.PlainAid

theorem wpList_store_new {P : Program} {ops : Array Oper} {rest : List Oper} {o : Oper} {a : Act} {w : World} {Q : Exit → Act → World → Prop} {t : TypeId} {Z : Array Value} (hgd : o.guard = none) (ty : TypeId) (x y : Operand) (ho : o.op = .store ty x y)
    (hd : o.dst = none) (A : Array Value) (hx : a.eval x = .pointer (some ⟨w.heap.size, 0, none⟩)) (hy : a.eval y = .agg A) (hi : (P.info? ty).map (·.size) = some A.size) (hold : Z.size = A.size) (h1 : A.all (·.oneCell') = true)
    (h : wpList P ops Q rest a (w.alloc (.cells A t))) : wpList P ops Q (o :: rest) a (w.alloc (.cells Z t)) :=
  wpList_store_row hgd ty x y ho w.heap.size A hx hy t Z (heap_alloc_new _ _) hi hold h1 (by rw [hd, World.setRow_alloc_new]; exact h)
/-- What a call that makes a memory answers: two new blocks. -/
def NewEnd (w : World) (M : Int → Int × Int) : Ending → World → Prop := fun e w' => e = .returned (.pointer (some ⟨w.heap.size + 1, 0, none⟩)) ∧ Below w.heap.size w w' ∧ Pm (w.heap.size + 1) w.heap.size w' M
theorem newEnd_of {w : World} {M : Int → Int × Int} {A : Array Value} {x : Obj} {t : TypeId} (hA : Ar A M) (hx : x = .cells #[.pointer (some ⟨w.heap.size, 0, none⟩)] 80) (h0 : 0 < w.heap.size) :
    NewEnd w M (.returned (.pointer (some ⟨w.heap.size + 1, 0, none⟩))) ((w.alloc (.cells A t)).alloc x) := by
  subst hx
  refine ⟨rfl, by go_grown, ⟨by go_simp, ⟨A, t, ?_, hA⟩, by omega, by omega⟩⟩
  rw [heap_alloc_old _ _ (by simp), heap_alloc_new]
set_option maxRecDepth 100000 in
theorem newp_c (w : World) (h0 : 0 < w.heap.size) : Calls Tryd.prog 19 #[] w (NewEnd w (fun _ => (0, 0))) := by
  have hz := fun W => zeroArr W
  have HZ := Lib.hid Ar.zero
  generalize zeroA = Z at *
  go_enter Tryd.func19, Tryd.ntmps19
  go_wp2
  go_ret
  exact newEnd_of (A := Z) (x := .cells #[.pointer (some ⟨w.heap.size, 0, none⟩)] 80) HZ.out rfl h0
set_option maxRecDepth 100000 in
theorem clonen_c (w : World) : Calls Tryd.prog 30 #[.pointer none] w fun e w' => e = .returned (.pointer none) ∧ Below w.heap.size w w' := by
  go_enter Tryd.func30, Tryd.ntmps30
  go_wp2
  go_ret
  exact ⟨rfl, by go_grown⟩
set_option maxRecDepth 100000 in
theorem clonep_c (M : Int → Int × Int) (mb bb : Nat) (w : World) (hP : Pm mb bb w M) : Calls Tryd.prog 30 #[.pointer (some ⟨mb, 0, none⟩)] w (NewEnd w M) := by
  have hz := fun W => zeroArr W
  have hzs := Ar.zero.sz
  have hbw := hP.lt
  have hb0 := hP.nz
  have hm_0 := hP.c0
  have hmw : mb < w.heap.size := klt hm_0
  obtain ⟨A, t, hrow, hA⟩ := hP.row
  have HA := Lib.hid hA
  have hzA : zeroA.size = A.size := by rw [hzs, hA.sz]
  have hsz : (Tryd.prog.info? 85).map (·.size) = some A.size := by rw [size_arr, hA.sz]
  have hone := hA.one
  have HS := Lib.hid (And.intro hzA (And.intro hsz hone))
  clear hzA hsz hone hzs
  generalize zeroA = Z at *
  clear hP hA
  go_enter Tryd.func30, Tryd.ntmps30
  go_wp2_with (first
    | refine wpList_load_row rfl 85 _ rfl bb rfl t A (0, 0) _ hrow under_arr rfl HS.out.2.1 ?_
    | refine wpList_store_new rfl 85 _ _ rfl rfl A rfl rfl HS.out.2.1 HS.out.1 HS.out.2.2 ?_)
  go_ret
  exact newEnd_of (A := A) (x := .cells #[.pointer (some ⟨w.heap.size, 0, none⟩)] 80) HA.out rfl (by omega)
end Go.Proofs.YtcilnbkmaoneaaaDoor
