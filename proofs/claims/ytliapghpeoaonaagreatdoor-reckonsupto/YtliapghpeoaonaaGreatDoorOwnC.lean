/-
  The closed facts of the row of Reckons.
-/
import Derived.Test.YtliapghpeoaonaaGreatDoorRows
import Derived.ProofKit
import Derived.LaidMore
import Derived.Stop.Joined
import Derived.Stop.ErrReads
import Derived.Deep.DeepHandedRow
namespace Go.Proofs.YtliapghpeoaonaaGreatDoor
open Go.ChangeShapes Go.WideShapes Go.ChangeAt Go.RowKit
theorem jand {a b:Bool}(h1:a=true)(h2:b=true):(a&&b)=true:=by rw[h1,h2];rfl
set_option maxHeartbeats 400000000 in
theorem closed:joinedFacts Tryz.prog 3 Tryz.f3 (Rows.OpenSpec.upto Rows.reckonsSpec).bare Rows.reckonsUptoRow=true:=by
 unfold joinedFacts
 repeat' (with_reducible refine jand ?_ ?_)
 all_goals (as_aux_lemma=>kernel_rfl)
end Go.Proofs.YtliapghpeoaonaaGreatDoor
