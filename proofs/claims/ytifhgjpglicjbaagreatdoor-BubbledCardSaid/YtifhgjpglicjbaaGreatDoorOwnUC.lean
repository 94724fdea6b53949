/-
  The closed facts of the row of Bubbled.
-/
import Derived.Test.YtifhgjpglicjbaaGreatDoorRows
import Derived.ProofKit
import Derived.LaidMore
import Derived.Stop.Joined
import Derived.Stop.ErrReads
set_option maxHeartbeats 400000000
namespace Go.Proofs.YtifhgjpglicjbaaGreatDoor
open Go.Proofs.Tryz
open Go.ChangeShapes Go.WideShapes Go.ChangeAt Go.RowKit
theorem jandU {a b:Bool}(h1:a=true)(h2:b=true):(a&&b)=true:=by rw[h1,h2];rfl
theorem closed:joinedFacts prog 7 Tryz.f7 Rows.bubbledSpec Rows.bubbledRow=true:=by
 unfold joinedFacts
 repeat' (with_reducible refine jandU ?_ ?_)
 all_goals (as_aux_lemma=>kernel_rfl)
end Go.Proofs.YtifhgjpglicjbaaGreatDoor
