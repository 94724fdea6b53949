/-
  The law's code and is, at what Check answers.
-/
import Derived.Test.YtdiefbahmcihlaaGreatDoorLawB
import Derived.Deep.QuietTactic
namespace Go.Proofs.YtdiefbahmcihlaaGreatDoor
open Go.RowKit
attribute [local go_sem ↓] Go.wp_at_zero Go.wp_at_succ

/-- The sentinels' variables and the sentinels themselves: nine, no two the same. -/
structure Sents (w : World) (E : Nat → Addr) : Prop where
  er : Errs w E
  e8 : w.cell? ⟨0, 0, none⟩ = some (errVal (E 8))
  e9 : w.cell? ⟨2, 0, none⟩ = some (errVal (E 9))
  et : w.cell? ⟨9, 0, none⟩ = some (.iface 182 (.agg #[.pointer (some ⟨15, 33, none⟩)]))
  row : ∀ i, 1 ≤ i → i ≤ 9 → ∃ c t, w.heap[(E i).block]? = some (.cells c t (0, 0))
  ne : ∀ i j, 1 ≤ i → i ≤ 9 → 1 ≤ j → j ≤ 9 → i ≠ j → E i ≠ E j
theorem Sents.below {w w' : World} {E : Nat → Addr} (h : Sents w E) (hb : Below w.heap.size w w') : Sents w' E :=
  ⟨h.er.below hb, Below.cellv hb h.e8, Below.cellv hb h.e9, Below.cellv hb h.et, fun i h1 h2 => by
    obtain ⟨c, t, hc⟩ := h.row i h1 h2
    exact ⟨c, t, by rw [hb.block _ (block_lt hc)]; exact hc⟩, h.ne⟩
theorem is_no {w : World} {E : Nat → Addr} (h : Sents w E) (c x p : Nat) (h1 : 1 ≤ c) (h2 : c ≤ 9) (h3 : 1 ≤ x) (h4 : x ≤ 9) (hne : c ≠ x) :
    Calls Tryz.prog 18 #[wrongV p (E c), errVal (E x)] w fun e w' => e = .returned (.bool false) ∧ Below w.heap.size w w' := by
  obtain ⟨c1, t1, r1⟩ := h.row c h1 h2
  obtain ⟨c2, t2, r2⟩ := h.row x h3 h4
  exact is_wrong_other p (E c) (E x) c1 c2 t1 t2 w (h.ne c x h1 h2 h3 h4 hne) r1 r2
set_option maxHeartbeats 1000000 in
theorem code_nil (w : World) : Calls Tryz.prog 64 #[.nilIface] w fun e w' => e = .returned (.tuple #[.int .i64 0, .int .i64 0]) ∧ Below w.heap.size w w' := by
  go_enter Tryz.func64, Tryz.ntmps64
  go_wp2
  go_ret2
  exact ⟨rfl, Below.refl _ _⟩
end Go.Proofs.YtdiefbahmcihlaaGreatDoor
