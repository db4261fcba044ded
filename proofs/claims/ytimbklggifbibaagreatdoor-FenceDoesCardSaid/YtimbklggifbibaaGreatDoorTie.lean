/-
  DERIVED. GIVEN WITH THE SEED: THE PROGRAM's TIES (one call each: nine closed facts by the kernel) AND EACH ROW's TIE, after the 31st guide's Derived/Test/Toyas{Tie, Card}.lean. No idea stands in it: it is a product of the set-up. Laid BY PROGRAM, IN A SANDBOX (cutbox-door.mjs). By AI agents, Wed Nov 11 2026. No macro, syntax, notation, axiom, sorry.
-/
import Derived.Test.YtimbklggifbibaaGreatDoorRows
import Derived.LaidByTextLater
import Derived.SevenTiedAt
import Derived.LaidSub
import Derived.LaidOnce
namespace Go.Proofs.YtimbklggifbibaaGreatDoor
open Go
set_option maxRecDepth 100000
theorem seatTie1 : Tryz.prog.laidByTextLater [("baton/fence.errArg", Rows.laid_baton_fence_errArg), ("baton/fence.errForm", Rows.laid_baton_fence_errForm), ("baton/fence.errFull", Rows.laid_baton_fence_errFull), ("baton/fence.errStale", Rows.laid_baton_fence_errStale)] [.sentinel, .sentinel, .sentinel, .sentinel] true :=
  Program.laidByTextLater_by_one 85 8 2 (by kernel_rfl) (by kernel_rfl) (by kernel_rfl) (by kernel_rfl) (by kernel_rfl) (by kernel_rfl) (fun _ _ => by kernel_rfl)
theorem noOwnUnsafe : Tryz.pinned.checked.prog.headLifts.contains "ownunsafe" = false := by kernel_rfl
theorem tie : Tryz.prog.laidByTextLater [("baton/fence.errArg", Rows.laid_baton_fence_errArg), ("baton/fence.errForm", Rows.laid_baton_fence_errForm), ("baton/fence.errFull", Rows.laid_baton_fence_errFull), ("baton/fence.errStale", Rows.laid_baton_fence_errStale)] [.sentinel, .sentinel, .sentinel, .sentinel] true :=
  Program.laidByTextLater.sub seatTie1 ["baton/fence.errArg", "baton/fence.errForm", "baton/fence.errFull", "baton/fence.errStale"] (by kernel_rfl) (by kernel_rfl)
theorem fenceDoes_row_tie : Rows.fenceDoesRow.laidByTextAt .later Tryz.pinned [.sentinel, .sentinel, .sentinel, .sentinel] true :=
  OpenClaim.laidByTextAt_later rfl rfl tie noOwnUnsafe
theorem fenceDoesUpto_row_tie : Rows.fenceDoesUptoRow.laidByTextAt .later Tryz.pinned [.sentinel, .sentinel, .sentinel, .sentinel] true :=
  OpenClaim.laidByTextAt_later rfl rfl tie noOwnUnsafe
end Go.Proofs.YtimbklggifbibaaGreatDoor
