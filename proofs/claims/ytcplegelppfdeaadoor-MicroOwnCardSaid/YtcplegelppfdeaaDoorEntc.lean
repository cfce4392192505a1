/-
  What stands in the program's table for a byte: the call.
-/
import Derived.Test.YtcplegelppfdeaaDoorEnt
import Derived.Test.YtcplegelppfdeaaDoorTab
import Derived.Test.YtcplegelppfdeaaDoorRows
import Derived.Test.YtcplegelppfdeaaDoorLawKit
import Derived.Test.YtcplegelppfdeaaDoorPlanA
import Derived.WalkKit
import Derived.WalkSpells
import Derived.IntWalk
import Derived.Handy
import Derived.Lib.Hide
set_option linter.unusedSimpArgs false
set_option linter.unusedVariables false
namespace Go.Proofs.YtcplegelppfdeaaDoor
open Go.RowKit Go.PlainAid

theorem under_ents : Tryd.prog.underlying 67 = some (.array 256 54) := by kernel_rfl
theorem agg_ent (w : World) : (isAgg 54).run Tryd.prog w = .ok true w := by kernel_rfl
theorem size_ent (w : World) : (sizeOf 54).run Tryd.prog w = .ok 2 w := by kernel_rfl
theorem run_ent_index (b : Nat) (hb : b < 256) (w : World) : (Instr.index 67 (.agg entA) (.int .u8 b)).run Tryd.prog w = .ok (entV b) w := by
  have h := entA_at b hb
  have e : b * 2 = 2 * b := by omega
  unfold entV
  generalize entA = A at *
  generalize entC b = C at *
  have hi : (0 : Int) ≤ (b : Int) ∧ (b : Int) < (256 : Nat) := by omega
  have hi' : ¬ 256 ≤ b := by omega
  simp [Instr.index, run_underlying under_ents, asIntOf, hi, hi', part, agg_ent, size_ent, go_sem, e, h]

theorem ent_tail : ∃ o1 o2 o3, entOps.toList = entOps.toList.take 152 ++ [o1, o2, o3] ∧ o1.guard = none ∧ o1.op = .move (.tmp 0) ∧ o1.dst = some 155 ∧ o2.guard = none ∧ o2.op = .index 67 (.tmp 154) (.tmp 155) ∧ o2.dst = some 156 ∧
    o3.guard = none ∧ o3.op = .store 54 (.tmp 2) (.tmp 156) ∧ o3.dst = none :=
  ⟨entOps.toList.getD 152 default, entOps.toList.getD 153 default, entOps.toList.getD 154 default, by kernel_rfl, by kernel_rfl, by kernel_rfl, by kernel_rfl, by kernel_rfl, by kernel_rfl, by kernel_rfl, by kernel_rfl, by kernel_rfl, by kernel_rfl⟩
theorem ent_c (b : Nat) (hb : b < 256) (w : World) : Calls Tryd.prog 27 #[.int .u8 b] w fun e w' => e = .returned (entV b) ∧ Below w.heap.size w w' := by
  obtain ⟨a1, h1, h0, h2, h154, hsz, hdf⟩ := ent1_is (.int .u8 b) (.pointer (some ⟨w.heap.size, 0, none⟩))
  have hx := fun w => run_ent_index b hb w
  obtain ⟨o1, o2, o3, hL, g1, p1, d1, g2, p2, d2, g3, p3, d3⟩ := ent_tail
  go_enter Tryd.func27, Tryd.ntmps27
  generalize hR : Code.region 1 _ false = R
  have hR' : R = Code.region 1 entOps false := by rw [← hR]; kernel_rfl
  clear hR
  go_wp2
  rename_i Q K HK
  generalize hA : ({ tmps := _, defers := _ } : Act) = A
  have hA' : A = ent0 (.int .u8 b) (.pointer (some ⟨w.heap.size, 0, none⟩)) := by rw [← hA]; kernel_rfl
  clear hA
  subst hA'
  rw [hR']
  refine wp_region_list ?_
  rw [hL]
  refine wpList_builds _ _ a1 h1 ?_
  refine wpList_val (w' := w.alloc (Obj.cells #[Value.string { data := #[] }, Value.int IntKind.i64 0] 54)) (.int .u8 b) g1 ?_ ?_
  · rw [BigFrame.run_move _ p1, h0]
  rw [d1]
  refine wpList_val (w' := w.alloc (Obj.cells #[Value.string { data := #[] }, Value.int IntKind.i64 0] 54)) (entV b) g2 ?_ ?_
  · unfold execOp
    rw [p2]
    show Sem.run _ (do pure (Next.value (← Instr.index 67 _ _))) _ = _
    rw [eval_put_ne _ _ _ _ (by decide), eval_put_same _ _ _ (by omega), h154]
    have hr := hx (w.alloc (Obj.cells #[Value.string { data := #[] }, Value.int IntKind.i64 0] 54))
    generalize Instr.index _ _ _ = S at hr ⊢
    simp [hr, go_sem]
  rw [d2]
  have s0 : (((a1.put (some 155) (.int .u8 b)).put (some 156) (entV b)).eval (.tmp 2)) = .pointer (some ⟨w.heap.size, 0, none⟩) := by
    rw [eval_put_ne _ _ _ _ (by decide), eval_put_ne _ _ _ _ (by decide), h2]
  have s1 : (((a1.put (some 155) (.int .u8 b)).put (some 156) (entV b)).eval (.tmp 156)) = entV b := eval_put_same _ _ _ (by show 156 < (a1.tmps.setIfInBounds 155 _).size; simp [hsz])
  refine wpList_skp (w' := w.alloc (Obj.cells #[.string ⟨(nm b).toArray⟩, .int .i64 (md b)] 54)) g3 ?_ ?_
  · unfold execOp
    rw [p3]
    show Sem.run _ (do Instr.storeAt _ _ _; pure Next.skip) _ = _
    rw [s0, s1]
    unfold entV entC
    simp [go_sem]
  rw [d3]
  refine HK _ _ ?_
  refine wp_ret ?_
  have s2 : (((a1.put (some 155) (.int .u8 b)).put (some 156) (entV b)).put none undef).tmps.getD 2 undef = .pointer (some ⟨w.heap.size, 0, none⟩) := s0
  have s3 : (((a1.put (some 155) (.int .u8 b)).put (some 156) (entV b)).put none undef).defers = [] := hdf
  generalize (((a1.put (some 155) (.int .u8 b)).put (some 156) (entV b)).put none undef) = A at *
  have s4 : A.tmps[2]?.getD undef = .pointer (some ⟨w.heap.size, 0, none⟩) := by simpa using s2
  clear s2 s0 s1 h1 h0 h2 h154 hsz hdf
  refine bodyPost_ret (v := entV b) ?_ s3 ⟨rfl, by go_grown⟩
  unfold entV entC
  simp [results, Tryd.results27, go_sem, s4]
end Go.Proofs.YtcplegelppfdeaaDoor
