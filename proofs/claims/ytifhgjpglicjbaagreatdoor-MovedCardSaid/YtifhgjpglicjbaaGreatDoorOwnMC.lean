/-
  The closed facts of the row of Moved.
-/
import Derived.Test.YtifhgjpglicjbaaGreatDoorRows
import Derived.ProofKit
import Derived.LaidMore
import Derived.Stop.Joined
import Derived.Stop.ErrReads
namespace Go.Proofs.YtifhgjpglicjbaaGreatDoor
open Go.ChangeShapes Go.WideShapes Go.ChangeAt Go.RowKit
theorem jandM {a b:Bool}(h1:a=true)(h2:b=true):(a&&b)=true:=by rw[h1,h2];rfl
set_option maxHeartbeats 400000000 in
theorem closedM:joinedFacts Tryz.prog 5 Tryz.f5 Rows.movedSpec Rows.movedRow=true:=by
 unfold joinedFacts
 repeat' (with_reducible refine jandM ?_ ?_)
 all_goals (as_aux_lemma=>kernel_rfl)
end Go.Proofs.YtifhgjpglicjbaaGreatDoor
