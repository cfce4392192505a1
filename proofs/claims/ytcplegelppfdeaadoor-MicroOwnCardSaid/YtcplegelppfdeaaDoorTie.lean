/-
  DERIVED. GIVEN WITH THE SEED: THE PROGRAM's TIES (one call each: nine closed facts by the kernel) AND EACH ROW's TIE, after the 31st guide's Derived/Test/Toyas{Tie, Card}.lean. No idea stands in it: it is a product of the set-up. Laid BY PROGRAM, IN A SANDBOX (cutbox-door.mjs). By AI agents, Wed Nov 11 2026. No macro, syntax, notation, axiom, sorry.
-/
import Derived.Test.YtcplegelppfdeaaDoorRows
import Derived.LaidByTextLater
import Derived.SevenTiedAt
import Derived.LaidSub
import Derived.LaidOnce
namespace Go.Proofs.YtcplegelppfdeaaDoor
open Go
set_option maxRecDepth 100000
theorem seatTie1 : Tryd.prog.laidByTextLater [("cochineal/micro.rows", Rows.laid_cochineal_micro_rows)] [.widerDeep] true :=
  Program.laidByTextLater_by_one 189 8 171 (by kernel_rfl) (by kernel_rfl) (by kernel_rfl) (by kernel_rfl) (by kernel_rfl) (by kernel_rfl) (fun _ _ => by kernel_rfl)
theorem seatTie2 : Tryd.prog.laidByTextLater [("cochineal/opcode.paces", Rows.laid_cochineal_opcode_paces), ("cochineal/micro.rows", Rows.laid_cochineal_micro_rows)] [.data, .widerDeep] true :=
  Program.laidByTextLater_by_one 189 8 171 (by kernel_rfl) (by kernel_rfl) (by kernel_rfl) (by kernel_rfl) (by kernel_rfl) (by kernel_rfl) (fun _ _ => by kernel_rfl)
theorem noOwnUnsafe : Tryd.pinned.checked.prog.headLifts.contains "ownunsafe" = false := by kernel_rfl
theorem tie : Tryd.prog.laidByTextLater [("cochineal/micro.rows", Rows.laid_cochineal_micro_rows)] [.widerDeep] true :=
  Program.laidByTextLater.sub seatTie1 ["cochineal/micro.rows"] (by kernel_rfl) (by kernel_rfl)
theorem microPrograms_row_tie : Rows.microProgramsRow.laidByTextAt .later Tryd.pinned [.widerDeep] true :=
  OpenClaim.laidByTextAt_later rfl rfl tie noOwnUnsafe
theorem microSequences_row_tie : Rows.microSequencesRow.laidByTextAt .later Tryd.pinned [.widerDeep] true :=
  OpenClaim.laidByTextAt_later rfl rfl tie noOwnUnsafe
theorem microOwn_row_tie : Rows.microOwnRow.laidByTextAt .later Tryd.pinned [.widerDeep] true :=
  OpenClaim.laidByTextAt_later rfl rfl tie noOwnUnsafe
theorem microWrites_row_tie : Rows.microWritesRow.laidByTextAt .later Tryd.pinned [.widerDeep] true :=
  OpenClaim.laidByTextAt_later rfl rfl tie noOwnUnsafe
theorem tie2 : Tryd.prog.laidByTextLater [("cochineal/opcode.paces", Rows.laid_cochineal_opcode_paces), ("cochineal/micro.rows", Rows.laid_cochineal_micro_rows)] [.data, .widerDeep] true :=
  Program.laidByTextLater.sub seatTie2 ["cochineal/opcode.paces", "cochineal/micro.rows"] (by kernel_rfl) (by kernel_rfl)
theorem microLeast_row_tie : Rows.microLeastRow.laidByTextAt .later Tryd.pinned [.data, .widerDeep] true :=
  OpenClaim.laidByTextAt_later rfl rfl tie2 noOwnUnsafe
theorem microProgramsUpto_row_tie : Rows.microProgramsUptoRow.laidByTextAt .later Tryd.pinned [.widerDeep] true :=
  OpenClaim.laidByTextAt_later rfl rfl tie noOwnUnsafe
theorem microSequencesUpto_row_tie : Rows.microSequencesUptoRow.laidByTextAt .later Tryd.pinned [.widerDeep] true :=
  OpenClaim.laidByTextAt_later rfl rfl tie noOwnUnsafe
theorem microLeastUpto_row_tie : Rows.microLeastUptoRow.laidByTextAt .later Tryd.pinned [.data, .widerDeep] true :=
  OpenClaim.laidByTextAt_later rfl rfl tie2 noOwnUnsafe
theorem microOwnUpto_row_tie : Rows.microOwnUptoRow.laidByTextAt .later Tryd.pinned [.widerDeep] true :=
  OpenClaim.laidByTextAt_later rfl rfl tie noOwnUnsafe
theorem microWritesUpto_row_tie : Rows.microWritesUptoRow.laidByTextAt .later Tryd.pinned [.widerDeep] true :=
  OpenClaim.laidByTextAt_later rfl rfl tie noOwnUnsafe
end Go.Proofs.YtcplegelppfdeaaDoor
