/-
  DERIVED. GIVEN WITH THE SEED: THE PROGRAM's TIES (one call each: nine closed facts by the kernel) AND EACH ROW's TIE, after the 31st guide's Derived/Test/Toyas{Tie, Card}.lean. No idea stands in it: it is a product of the set-up. Laid BY PROGRAM, IN A SANDBOX (cutbox-door.mjs). By AI agents, Wed Nov 11 2026. No macro, syntax, notation, axiom, sorry.
-/
import Derived.Test.YtdiefbahmcihlaaDoorRows
import Derived.LaidByTextLater
import Derived.SevenTiedAt
import Derived.LaidSub
import Derived.LaidOnce
namespace Go.Proofs.YtdiefbahmcihlaaDoor
open Go
set_option maxRecDepth 100000
theorem seatTie1 : Tryd.prog.laidByTextLater [("stagehand/api.ErrLong", Rows.laid_stagehand_api_ErrLong), ("stagehand/api.ErrText", Rows.laid_stagehand_api_ErrText), ("stagehand/api.ErrDeep", Rows.laid_stagehand_api_ErrDeep), ("stagehand/api.ErrName", Rows.laid_stagehand_api_ErrName), ("stagehand/api.ErrTwice", Rows.laid_stagehand_api_ErrTwice), ("stagehand/api.ErrArity", Rows.laid_stagehand_api_ErrArity), ("stagehand/api.ErrMain", Rows.laid_stagehand_api_ErrMain), ("stagehand/api.ErrFault", Rows.laid_stagehand_api_ErrFault), ("stagehand/api.ErrPath", Rows.laid_stagehand_api_ErrPath)] [.sentinel, .sentinel, .sentinel, .sentinel, .sentinel, .sentinel, .sentinel, .sentinel, .sentinel] true :=
  Program.laidByTextLater_by_one 195 8 65 (by kernel_rfl) (by kernel_rfl) (by kernel_rfl) (by kernel_rfl) (by kernel_rfl) (by kernel_rfl) (fun _ _ => by kernel_rfl)
theorem noOwnUnsafe : Tryd.pinned.checked.prog.headLifts.contains "ownunsafe" = false := by kernel_rfl
theorem tie : Tryd.prog.laidByTextLater [("stagehand/api.ErrLong", Rows.laid_stagehand_api_ErrLong), ("stagehand/api.ErrText", Rows.laid_stagehand_api_ErrText), ("stagehand/api.ErrDeep", Rows.laid_stagehand_api_ErrDeep), ("stagehand/api.ErrName", Rows.laid_stagehand_api_ErrName), ("stagehand/api.ErrTwice", Rows.laid_stagehand_api_ErrTwice), ("stagehand/api.ErrArity", Rows.laid_stagehand_api_ErrArity), ("stagehand/api.ErrMain", Rows.laid_stagehand_api_ErrMain), ("stagehand/api.ErrFault", Rows.laid_stagehand_api_ErrFault), ("stagehand/api.ErrPath", Rows.laid_stagehand_api_ErrPath)] [.sentinel, .sentinel, .sentinel, .sentinel, .sentinel, .sentinel, .sentinel, .sentinel, .sentinel] true :=
  Program.laidByTextLater.sub seatTie1 ["stagehand/api.ErrLong", "stagehand/api.ErrText", "stagehand/api.ErrDeep", "stagehand/api.ErrName", "stagehand/api.ErrTwice", "stagehand/api.ErrArity", "stagehand/api.ErrMain", "stagehand/api.ErrFault", "stagehand/api.ErrPath"] (by kernel_rfl) (by kernel_rfl)
theorem names_row_tie : Rows.namesRow.laidByTextAt .later Tryd.pinned [.sentinel, .sentinel, .sentinel, .sentinel, .sentinel, .sentinel, .sentinel, .sentinel, .sentinel] true :=
  OpenClaim.laidByTextAt_later rfl rfl tie noOwnUnsafe
theorem namesUpto_row_tie : Rows.namesUptoRow.laidByTextAt .later Tryd.pinned [.sentinel, .sentinel, .sentinel, .sentinel, .sentinel, .sentinel, .sentinel, .sentinel, .sentinel] true :=
  OpenClaim.laidByTextAt_later rfl rfl tie noOwnUnsafe
end Go.Proofs.YtdiefbahmcihlaaDoor
