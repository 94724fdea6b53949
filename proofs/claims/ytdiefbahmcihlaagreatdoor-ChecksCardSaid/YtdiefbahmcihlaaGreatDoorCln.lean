/-
  A copy of a text.
-/
import Derived.Test.YtdiefbahmcihlaaGreatDoorRows
import Derived.Shelf.Pu.Clone
import Derived.WalkKit
import Derived.WalkSmall
namespace Go.Proofs.YtdiefbahmcihlaaGreatDoor
open Go.RowKit Go.Shelf

/-- The numbers that the copying of texts has here. -/
def renC : Ren := ⟨fun k => if k = 25 then 90 else 0, fun k => if k = 3 then 3 else if k = 4 then 4 else if k = 5 then 5 else if k = 9 then 9 else if k = 37 then 177 else if k = 47 then 276 else 0, fun _ => 0⟩
theorem laysC : LaysPu.n25 Tryz.prog renC := by
  constructor
  all_goals first | kernel_rfl | (intro w; kernel_rfl)
set_option maxHeartbeats 1000000 in
theorem clone_any (s : ByteArray) (w : World) (hs : s.size ≤ 281474976710656) :
    Calls Tryz.prog 54 #[.string s] w fun e w' => e = .returned (.string s) ∧ Below w.heap.size w w' := by
  have c : Calls Tryz.prog 90 #[.string s] w fun e w' => e = .returned (.string s) ∧ Below w.heap.size w w' := AnyPu.stringslite_Clone laysC s w hs
  go_enter Tryz.func54, Tryz.ntmps54
  go_wp2_with (go_at_call 90; refine c.mono ?_; rintro e w' ⟨rfl, hb⟩)
  go_ret
  exact ⟨rfl, hb⟩
end Go.Proofs.YtdiefbahmcihlaaGreatDoor
