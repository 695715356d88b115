/-
  DERIVED. GIVEN WITH THE SEED: THE PROGRAM's TIES (one call each: nine closed facts by the kernel) AND EACH ROW's TIE, after the 31st guide's Derived/Test/Toyas{Tie, Card}.lean. No idea stands in it: it is a product of the set-up. Laid BY PROGRAM, IN A SANDBOX (cutbox-door.mjs). By AI agents, Wed Nov 11 2026. No macro, syntax, notation, axiom, sorry.
-/
import Derived.Test.YtjeijolblcodpaaDoorRows
import Derived.LaidByTextLater
import Derived.SevenTiedAt
import Derived.LaidSub
import Derived.LaidOnce
namespace Go.Proofs.YtjeijolblcodpaaDoor
open Go
set_option maxRecDepth 100000
theorem seatTie1 : Tryd.prog.laidByTextLater [("arbour/move.root", Rows.laid_arbour_move_root), ("arbour/move.trash", Rows.laid_arbour_move_trash), ("arbour/tree.root", Rows.laid_arbour_tree_root), ("arbour/tree.trash", Rows.laid_arbour_tree_trash)] [.data, .data, .data, .data] true :=
  Program.laidByTextLater_by_one 29 8 3 (by kernel_rfl) (by kernel_rfl) (by kernel_rfl) (by kernel_rfl) (by kernel_rfl) (by kernel_rfl) (fun _ _ => by kernel_rfl)
theorem noOwnUnsafe : Tryd.pinned.checked.prog.headLifts.contains "ownunsafe" = false := by kernel_rfl
theorem tie : Tryd.prog.laidByTextLater [("arbour/move.root", Rows.laid_arbour_move_root), ("arbour/move.trash", Rows.laid_arbour_move_trash)] [.data, .data] true :=
  Program.laidByTextLater.sub seatTie1 ["arbour/move.root", "arbour/move.trash"] (by kernel_rfl) (by kernel_rfl)
theorem movePlays_row_tie : Rows.movePlaysRow.laidByTextAt .later Tryd.pinned [.data, .data] true :=
  OpenClaim.laidByTextAt_later rfl rfl tie noOwnUnsafe
theorem moveRedoes_row_tie : Rows.moveRedoesRow.laidByTextAt .later Tryd.pinned [.data, .data] true :=
  OpenClaim.laidByTextAt_later rfl rfl tie noOwnUnsafe
theorem moveTwice_row_tie : Rows.moveTwiceRow.laidByTextAt .later Tryd.pinned [.data, .data] true :=
  OpenClaim.laidByTextAt_later rfl rfl tie noOwnUnsafe
theorem moveNil_row_tie : Rows.moveNilRow.laidByTextAt .later Tryd.pinned [.data, .data] true :=
  OpenClaim.laidByTextAt_later rfl rfl tie noOwnUnsafe
theorem moveOps_row_tie : Rows.moveOpsRow.laidByTextAt .later Tryd.pinned [.data, .data] true :=
  OpenClaim.laidByTextAt_later rfl rfl tie noOwnUnsafe
theorem tie2 : Tryd.prog.laidByTextLater [("arbour/move.root", Rows.laid_arbour_move_root), ("arbour/move.trash", Rows.laid_arbour_move_trash), ("arbour/tree.root", Rows.laid_arbour_tree_root), ("arbour/tree.trash", Rows.laid_arbour_tree_trash)] [.data, .data, .data, .data] true :=
  Program.laidByTextLater.sub seatTie1 ["arbour/move.root", "arbour/move.trash", "arbour/tree.root", "arbour/tree.trash"] (by kernel_rfl) (by kernel_rfl)
theorem moveSame_row_tie : Rows.moveSameRow.laidByTextAt .later Tryd.pinned [.data, .data, .data, .data] true :=
  OpenClaim.laidByTextAt_later rfl rfl tie2 noOwnUnsafe
theorem movePlaysUpto_row_tie : Rows.movePlaysUptoRow.laidByTextAt .later Tryd.pinned [.data, .data] true :=
  OpenClaim.laidByTextAt_later rfl rfl tie noOwnUnsafe
theorem moveSameUpto_row_tie : Rows.moveSameUptoRow.laidByTextAt .later Tryd.pinned [.data, .data, .data, .data] true :=
  OpenClaim.laidByTextAt_later rfl rfl tie2 noOwnUnsafe
theorem moveRedoesUpto_row_tie : Rows.moveRedoesUptoRow.laidByTextAt .later Tryd.pinned [.data, .data] true :=
  OpenClaim.laidByTextAt_later rfl rfl tie noOwnUnsafe
theorem moveTwiceUpto_row_tie : Rows.moveTwiceUptoRow.laidByTextAt .later Tryd.pinned [.data, .data] true :=
  OpenClaim.laidByTextAt_later rfl rfl tie noOwnUnsafe
theorem moveNilUpto_row_tie : Rows.moveNilUptoRow.laidByTextAt .later Tryd.pinned [.data, .data] true :=
  OpenClaim.laidByTextAt_later rfl rfl tie noOwnUnsafe
theorem moveOpsUpto_row_tie : Rows.moveOpsUptoRow.laidByTextAt .later Tryd.pinned [.data, .data] true :=
  OpenClaim.laidByTextAt_later rfl rfl tie noOwnUnsafe
end Go.Proofs.YtjeijolblcodpaaDoor
