/-
  Layer 8: the zero value of an array of 65536 bytes.
-/
import Derived.Test.YtcilnbkmaoneaaaDoorEnts
set_option linter.unusedSimpArgs false
set_option linter.unusedVariables false
namespace Go.Proofs.YtcilnbkmaoneaaaDoor
open Go.RowKit Go.PlainAid
set_option maxRecDepth 100000

theorem twice {α : Type} {a : List α} {z : α} {m : Nat} (h : a = List.replicate m z) : List.append a a = List.replicate (m + m) z := by
  subst h
  exact List.replicate_append_replicate
/-- The cells of 65536 bytes that are 0, not secret. -/
def zeroA : Array Value := (List.replicate 131072 (Value.int .u8 0)).toArray
theorem zeroA_size : zeroA.size = 131072 := by unfold zeroA; rw [List.size_toArray, List.length_replicate]
theorem zeroA_get (i : Nat) (h : i < 131072) : zeroA[i]? = some (.int .u8 0) := by
  unfold zeroA
  rw [List.getElem?_toArray, List.getElem?_replicate, if_pos h]
theorem zero_cells : Tryd.t85.zero = some (.agg zeroA) := by
  unfold Tryd.t85
  refine congrArg (fun l : List Value => some (Value.agg l.toArray)) ?_
  refine (twice (m := 65536) ?_)
  refine (twice (m := 32768) ?_)
  refine (twice (m := 16384) ?_)
  refine (twice (m := 8192) ?_)
  refine (twice (m := 4096) ?_)
  refine (twice (m := 2048) ?_)
  refine (twice (m := 1024) ?_)
  refine (twice (m := 512) ?_)
  refine (twice (m := 256) ?_)
  refine (twice (m := 128) ?_)
  first | (refine (twice (m := 64) ?_); rfl) | rfl
theorem zeroArr (w : World) : (zeroValue 85).run Tryd.prog w = .ok (.agg zeroA) w := by
  unfold zeroValue
  rw [Sem.run_bind, Tryd.typeInfo85]
  simp only [Result.andThen_ok, zero_cells, Sem.run_pure]
end Go.Proofs.YtcilnbkmaoneaaaDoor
