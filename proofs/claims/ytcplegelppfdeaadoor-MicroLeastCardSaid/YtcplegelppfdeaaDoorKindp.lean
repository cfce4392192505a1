/-
  The kind of an opcode by the program, by its name's letters and its mode.
-/
import Derived.Test.YtcplegelppfdeaaDoorSwitch
set_option linter.unusedSimpArgs false
set_option linter.unusedVariables false
namespace Go.Proofs.YtcplegelppfdeaaDoor
open Go.RowKit Go.PlainAid

/-- The cases of the program's switch of names: letters and kinds. -/
def pL : List (List (List UInt8) × Int) := [
  ([[65, 68, 67], [65, 78, 68], [66, 73, 84], [67, 77, 80], [67, 80, 88], [67, 80, 89], [69, 79, 82], [76, 68, 65], [76, 68, 88], [76, 68, 89], [79, 82, 65], [83, 66, 67]], 1),
  ([[83, 84, 65], [83, 84, 88], [83, 84, 89]], 2),
  ([[65, 83, 76], [68, 69, 67], [73, 78, 67], [76, 83, 82], [82, 79, 76], [82, 79, 82]], 3),
  ([[66, 82, 75], [74, 77, 80], [74, 83, 82], [80, 72, 65], [80, 72, 80], [80, 76, 65], [80, 76, 80], [82, 84, 73], [82, 84, 83]], 4)]
def pG : List (List ByteArray × Int) := pL.map fun x => (x.1.map fun l => ⟨l.toArray⟩, x.2)
def caseL (g : List (List (List UInt8) × Int)) (s : List UInt8) : Option Int := match g with
  | [] => none
  | (l, v) :: r => if l.any (fun t => s == t) then some v else caseL r s
theorem caseOf_list (s : ByteArray) : ∀ g, caseOf (g.map fun (x : List (List UInt8) × Int) => (x.1.map fun l => (⟨l.toArray⟩ : ByteArray), x.2)) s = caseL g s.data.toList
  | [] => rfl
  | (l, v) :: r => by
    have e : (l.map fun l => (⟨l.toArray⟩ : ByteArray)).any (fun t => s.toList == t.toList) = l.any (fun t => s.data.toList == t) := by
      rw [List.any_map]
      congr 1
      funext t
      show (s.toList == ByteArray.toList ⟨t.toArray⟩) = _
      rw [ByteArray.toList_eq, ByteArray.toList_eq]
    show (if (l.map fun l => (⟨l.toArray⟩ : ByteArray)).any (fun t => s.toList == t.toList) then some v else caseOf (r.map fun (x : List (List UInt8) × Int) => (x.1.map fun l => (⟨l.toArray⟩ : ByteArray), x.2)) s) = (if l.any (fun t => s.data.toList == t) then some v else caseL r s.data.toList)
    rw [e, caseOf_list s r]
def kindP (l : List UInt8) (m : Int) : Int := if m == 1 then 0 else if m == 12 then 4 else (caseL pL l).getD 0
set_option maxRecDepth 100000 in
set_option maxHeartbeats 1000000 in
theorem okindp_c (s : ByteArray) (m : Int) (w : World) : Calls Tryd.prog 28 #[.agg #[.string s, .int .i64 m]] w fun e w' => e = .returned (.int .i64 (kindP s.data.toList m)) ∧ Below w.heap.size w w' := by
  have hk := Lib.hid (show kindP s.data.toList m = if m == 1 then 0 else if m == 12 then 4 else (caseOf pG s).getD 0 from by unfold pG; rw [caseOf_list]; rfl)
  generalize kindP s.data.toList m = V at *
  cases e1 : (m == 1)
  · cases e2 : (m == 12)
    · go_enter Tryd.func28, Tryd.ntmps28
      generalize hS : Code.seq (Code.seq (Code.region 7 _ _) _) _ = S
      have hs : switchOf 45 10 2 S = some pG := by rw [← hS]; kernel_rfl
      clear hS
      go_wp2
      rename_i Q K HK
      have HV := hk.out
      rw [e1, e2] at HV
      refine wp_switch (SizeOf.sizeOf S + 1) (Nat.lt_succ_self _) hs rfl rfl ?_ ?_
      · intro a' v hkin hv hval
        show Q .ret a' _
        have hval' : a'.tmps.getD 2 undef = .int .i64 v := hval
        refine bodyPost_ret (results_tmp rfl _ _ _) hkin.defers ⟨?_, by go_grown⟩
        rw [hval', HV, hv]
        rfl
      · intro a' hkin hv
        show K a' _
        refine HK _ _ ?_
        refine wp_seq (wp_put (n := 45) (o := 2) (v := 0) rfl ?_)
        show Code.wp _ _ Q _ _
        refine wp_ret ?_
        have hval' : (a'.put (some 2) (.int .i64 0)).tmps.getD 2 undef = .int .i64 0 := eval_put_same a' 2 _ (by rw [hkin.size]; exact (by decide : (2 : Nat) < 45))
        refine bodyPost_ret (results_tmp rfl _ _ _) hkin.defers ⟨?_, by go_grown⟩
        rw [hval', HV, hv]
        rfl
    · go_enter Tryd.func28, Tryd.ntmps28
      go_wp2
      go_ret
      exact ⟨ret_i64T (by rw [hk.out, e1, e2]; rfl), by go_grown⟩
  · go_enter Tryd.func28, Tryd.ntmps28
    go_wp2
    go_ret
    exact ⟨ret_i64T (by rw [hk.out, e1]; rfl), by go_grown⟩
end Go.Proofs.YtcplegelppfdeaaDoor
