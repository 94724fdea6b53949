/- What (*errors.errorString).Error and (api.Wrong).Unwrap answer,. -/
import Derived.Test.YtdiefbahmcihlaaDoorRows
import Derived.WalkKit
import Derived.WalkSpells
import Derived.WalkLawsBesides
import Derived.Deep.RegionHeld3
import Derived.Deep.DrawnRows
import Derived.Deep.QuietTactic
import Derived.BigQuiet
import Derived.Deep.DeepCutAuto
namespace Go.Proofs.YtdiefbahmcihlaaDoor
open Go.RowKit

set_option maxHeartbeats 400000 in
theorem error_any (a : Addr) (s : ByteArray) (w : World) (hc : w.cell? a = some (.string s)) :
    Calls Tryd.prog 35 #[.pointer (some a)] w fun e w' => e = .returned (.string s) ∧ w' = w := by
  go_enter Tryd.func35, Tryd.ntmps35
  go_wp2
  go_ret
  exact ⟨rfl, rfl⟩

set_option maxHeartbeats 400000 in
theorem unwrap_any (n : Int) (v : Value) (w : World) :
    Calls Tryd.prog 4 #[.agg #[.int .i64 n, v]] w fun e w' => e = .returned v ∧ w' = w.alloc (.cells #[.int .i64 n, v] 27) := by
  go_enter Tryd.func4, Tryd.ntmps4
  go_wp2
  go_ret
  exact ⟨rfl, rfl⟩
end Go.Proofs.YtdiefbahmcihlaaDoor
