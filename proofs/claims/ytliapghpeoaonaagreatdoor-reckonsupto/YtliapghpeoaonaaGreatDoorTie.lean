/-
  DERIVED. GIVEN WITH THE SEED: THE PROGRAM's TIES (one call each: nine closed facts by the kernel) AND EACH ROW's TIE, after the 31st guide's Derived/Test/Toyas{Tie, Card}.lean. No idea stands in it: it is a product of the set-up. Laid BY PROGRAM, IN A SANDBOX (cutbox-door.mjs). By AI agents, Wed Nov 11 2026. No macro, syntax, notation, axiom, sorry.
-/
import Derived.Test.YtliapghpeoaonaaGreatDoorRows
import Derived.LaidByTextLater
import Derived.SevenTiedAt
import Derived.LaidSub
import Derived.LaidOnce
namespace Go.Proofs.YtliapghpeoaonaaGreatDoor
open Go
set_option maxRecDepth 100000
theorem seatTie1 : Tryz.prog.laidByTextLater [("math/bits.deBruijn32tab", Rows.laid_math_bits_deBruijn32tab), ("math/bits.deBruijn64tab", Rows.laid_math_bits_deBruijn64tab), ("internal/strconv.uint64pow10", Rows.laid_internal_strconv_uint64pow10), ("errors.errorType", Rows.laid_errors_errorType), ("strconv.ErrRange", Rows.laid_strconv_ErrRange), ("strconv.ErrSyntax", Rows.laid_strconv_ErrSyntax), ("stagehand/api.ErrLong", Rows.laid_stagehand_api_ErrLong), ("stagehand/api.ErrText", Rows.laid_stagehand_api_ErrText), ("stagehand/api.ErrDeep", Rows.laid_stagehand_api_ErrDeep), ("stagehand/api.ErrName", Rows.laid_stagehand_api_ErrName), ("stagehand/api.ErrTwice", Rows.laid_stagehand_api_ErrTwice), ("stagehand/api.ErrArity", Rows.laid_stagehand_api_ErrArity), ("stagehand/api.ErrMain", Rows.laid_stagehand_api_ErrMain), ("stagehand/api.ErrFault", Rows.laid_stagehand_api_ErrFault), ("stagehand/api.ErrPath", Rows.laid_stagehand_api_ErrPath)] [.data, .data, .data, .handle, .sentinel, .sentinel, .sentinel, .sentinel, .sentinel, .sentinel, .sentinel, .sentinel, .sentinel, .sentinel, .sentinel] true :=
  Program.laidByTextLater_by_one 240 8 65 (by kernel_rfl) (by kernel_rfl) (by kernel_rfl) (by kernel_rfl) (by kernel_rfl) (by kernel_rfl) (fun _ _ => by kernel_rfl)
theorem noOwnUnsafe : Tryz.pinned.checked.prog.headLifts.contains "ownunsafe" = false := by kernel_rfl
theorem tie : Tryz.prog.laidByTextLater [("math/bits.deBruijn32tab", Rows.laid_math_bits_deBruijn32tab), ("math/bits.deBruijn64tab", Rows.laid_math_bits_deBruijn64tab), ("internal/strconv.uint64pow10", Rows.laid_internal_strconv_uint64pow10), ("errors.errorType", Rows.laid_errors_errorType), ("strconv.ErrRange", Rows.laid_strconv_ErrRange), ("strconv.ErrSyntax", Rows.laid_strconv_ErrSyntax), ("stagehand/api.ErrLong", Rows.laid_stagehand_api_ErrLong), ("stagehand/api.ErrText", Rows.laid_stagehand_api_ErrText), ("stagehand/api.ErrDeep", Rows.laid_stagehand_api_ErrDeep), ("stagehand/api.ErrName", Rows.laid_stagehand_api_ErrName), ("stagehand/api.ErrTwice", Rows.laid_stagehand_api_ErrTwice), ("stagehand/api.ErrArity", Rows.laid_stagehand_api_ErrArity), ("stagehand/api.ErrMain", Rows.laid_stagehand_api_ErrMain), ("stagehand/api.ErrFault", Rows.laid_stagehand_api_ErrFault), ("stagehand/api.ErrPath", Rows.laid_stagehand_api_ErrPath)] [.data, .data, .data, .handle, .sentinel, .sentinel, .sentinel, .sentinel, .sentinel, .sentinel, .sentinel, .sentinel, .sentinel, .sentinel, .sentinel] true :=
  Program.laidByTextLater.sub seatTie1 ["math/bits.deBruijn32tab", "math/bits.deBruijn64tab", "internal/strconv.uint64pow10", "errors.errorType", "strconv.ErrRange", "strconv.ErrSyntax", "stagehand/api.ErrLong", "stagehand/api.ErrText", "stagehand/api.ErrDeep", "stagehand/api.ErrName", "stagehand/api.ErrTwice", "stagehand/api.ErrArity", "stagehand/api.ErrMain", "stagehand/api.ErrFault", "stagehand/api.ErrPath"] (by kernel_rfl) (by kernel_rfl)
theorem reckons_row_tie : Rows.reckonsRow.laidByTextAt .later Tryz.pinned [.data, .data, .data, .handle, .sentinel, .sentinel, .sentinel, .sentinel, .sentinel, .sentinel, .sentinel, .sentinel, .sentinel, .sentinel, .sentinel] true :=
  OpenClaim.laidByTextAt_later rfl rfl tie noOwnUnsafe
theorem reckonsUpto_row_tie : Rows.reckonsUptoRow.laidByTextAt .later Tryz.pinned [.data, .data, .data, .handle, .sentinel, .sentinel, .sentinel, .sentinel, .sentinel, .sentinel, .sentinel, .sentinel, .sentinel, .sentinel, .sentinel] true :=
  OpenClaim.laidByTextAt_later rfl rfl tie noOwnUnsafe
end Go.Proofs.YtliapghpeoaonaaGreatDoor
