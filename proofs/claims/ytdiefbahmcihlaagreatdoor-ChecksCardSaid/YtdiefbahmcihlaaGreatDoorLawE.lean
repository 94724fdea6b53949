/-
  The law's code, at what Check answers: each error by its number, and its place.
-/
import Derived.Test.YtdiefbahmcihlaaGreatDoorLawD
namespace Go.Proofs.YtdiefbahmcihlaaGreatDoor
open Go.RowKit
attribute [local go_sem ↓] Go.wp_at_zero Go.wp_at_succ

abbrev zWrong : Obj := .cells #[.int .i64 0, .nilIface] 163
theorem Sents.touch {X w' : World} {E : Nat → Addr} {o : Obj} (h : Sents X E) (ht : Touch (· = X.heap.size) (X.alloc o) w') : Sents w' E := by
  have key : ∀ {p : Addr} {v : Value}, X.cell? p = some v → w'.cell? p = some v := fun hc => ht.cell (alloc_cell hc) (Nat.ne_of_lt (cell_lt hc))
  exact ⟨⟨key h.er.e1, key h.er.e2, key h.er.e3, key h.er.e4, key h.er.e5, key h.er.e6, key h.er.e7⟩, key h.e8, key h.e9, key h.et, fun i h1 h2 => by
    obtain ⟨c, t, hc⟩ := h.row i h1 h2
    have hl := block_lt hc
    exact ⟨c, t, by rw [ht.block _ (by simp; omega) (Nat.ne_of_lt hl), (below1 X o).block _ hl]; exact hc⟩, h.ne⟩
theorem touch_below {X w' : World} {o : Obj} (ht : Touch (· = X.heap.size) (X.alloc o) w') : Below X.heap.size X w' := Touch.fresh (below1 X o) ht fun _k hk => Nat.ne_of_lt hk
set_option maxRecDepth 8000 in
set_option maxHeartbeats 4000000 in
theorem code_1 (p : Nat) (E : Nat → Addr) (w : World) (S : Sents w E) : Calls Tryz.prog 64 #[wrongV p (E 1)] w fun e w' => e = .returned (.tuple #[.int .i64 1, .int .i64 ((p : Nat) : Int)]) ∧ Below w.heap.size w w' := by
  have B : Below w.heap.size w w := Below.refl _ _
  have e8 := S.e8
  have e9 := S.e9
  go_enter Tryz.func64, Tryz.ntmps64
  go_wp2_with (first
    | (go_at_call 18; have m1 := mA; clear mA; refine (is_wrong_same p (E 1) _).mono ?_; rintro e w2 ⟨rfl, hb⟩; have S := S.below hb; have e1 := S.er.e1; have e2 := S.er.e2; have e3 := S.er.e3; have e4 := S.er.e4; have e5 := S.er.e5; have e6 := S.er.e6; have e7 := S.er.e7; have e8 := S.e8; have e9 := S.e9; have B := B.trans (hb.mono B.size); have pc := Below.cellv hb pc)
    | (go_at_call 106; have mA := m9; clear m9; go_loud (refine (as_hit p (E 1) _ (.int .i64 0) .nilIface _ (S.below (below1 _ zWrong)).et (by simp) (by simp) (by simp) (by simp)).mono ?_; rintro e w2 ⟨rfl, htA, pc⟩; have hb := touch_below htA; have S := S.touch htA; have e1 := S.er.e1; have e2 := S.er.e2; have e3 := S.er.e3; have e4 := S.er.e4; have e5 := S.er.e5; have e6 := S.er.e6; have e7 := S.er.e7; have e8 := S.e8; have e9 := S.e9; have B := B.trans (hb.mono B.size)))
    | (go_at_call 18; have m9 := m8; clear m8; refine (is_no S 1 9 p (by decide) (by decide) (by decide) (by decide) (by decide)).mono ?_; rintro e w2 ⟨rfl, hb⟩; have S := S.below hb; have e1 := S.er.e1; have e2 := S.er.e2; have e3 := S.er.e3; have e4 := S.er.e4; have e5 := S.er.e5; have e6 := S.er.e6; have e7 := S.er.e7; have e8 := S.e8; have e9 := S.e9; have B := B.trans (hb.mono B.size))
    | (go_at_call 18; have m8 := True.intro; refine (is_no S 1 8 p (by decide) (by decide) (by decide) (by decide) (by decide)).mono ?_; rintro e w2 ⟨rfl, hb⟩; have S := S.below hb; have e1 := S.er.e1; have e2 := S.er.e2; have e3 := S.er.e3; have e4 := S.er.e4; have e5 := S.er.e5; have e6 := S.er.e6; have e7 := S.er.e7; have e8 := S.e8; have e9 := S.e9; have B := B.trans (hb.mono B.size)))
  go_quiet (fail)
  go_wp2
  go_ret2
  exact ⟨rfl, below_drewN B _⟩
set_option maxRecDepth 8000 in
set_option maxHeartbeats 4000000 in
theorem code_2 (p : Nat) (E : Nat → Addr) (w : World) (S : Sents w E) : Calls Tryz.prog 64 #[wrongV p (E 2)] w fun e w' => e = .returned (.tuple #[.int .i64 2, .int .i64 ((p : Nat) : Int)]) ∧ Below w.heap.size w w' := by
  have B : Below w.heap.size w w := Below.refl _ _
  have e8 := S.e8
  have e9 := S.e9
  go_enter Tryz.func64, Tryz.ntmps64
  go_wp2_with (first
    | (go_at_call 18; have m2 := m1; clear m1; refine (is_wrong_same p (E 2) _).mono ?_; rintro e w2 ⟨rfl, hb⟩; have S := S.below hb; have e1 := S.er.e1; have e2 := S.er.e2; have e3 := S.er.e3; have e4 := S.er.e4; have e5 := S.er.e5; have e6 := S.er.e6; have e7 := S.er.e7; have e8 := S.e8; have e9 := S.e9; have B := B.trans (hb.mono B.size); have pc := Below.cellv hb pc)
    | (go_at_call 18; have m1 := mA; clear mA; refine (is_no S 2 1 p (by decide) (by decide) (by decide) (by decide) (by decide)).mono ?_; rintro e w2 ⟨rfl, hb⟩; have S := S.below hb; have e1 := S.er.e1; have e2 := S.er.e2; have e3 := S.er.e3; have e4 := S.er.e4; have e5 := S.er.e5; have e6 := S.er.e6; have e7 := S.er.e7; have e8 := S.e8; have e9 := S.e9; have B := B.trans (hb.mono B.size); have pc := Below.cellv hb pc)
    | (go_at_call 106; have mA := m9; clear m9; go_loud (refine (as_hit p (E 2) _ (.int .i64 0) .nilIface _ (S.below (below1 _ zWrong)).et (by simp) (by simp) (by simp) (by simp)).mono ?_; rintro e w2 ⟨rfl, htA, pc⟩; have hb := touch_below htA; have S := S.touch htA; have e1 := S.er.e1; have e2 := S.er.e2; have e3 := S.er.e3; have e4 := S.er.e4; have e5 := S.er.e5; have e6 := S.er.e6; have e7 := S.er.e7; have e8 := S.e8; have e9 := S.e9; have B := B.trans (hb.mono B.size)))
    | (go_at_call 18; have m9 := m8; clear m8; refine (is_no S 2 9 p (by decide) (by decide) (by decide) (by decide) (by decide)).mono ?_; rintro e w2 ⟨rfl, hb⟩; have S := S.below hb; have e1 := S.er.e1; have e2 := S.er.e2; have e3 := S.er.e3; have e4 := S.er.e4; have e5 := S.er.e5; have e6 := S.er.e6; have e7 := S.er.e7; have e8 := S.e8; have e9 := S.e9; have B := B.trans (hb.mono B.size))
    | (go_at_call 18; have m8 := True.intro; refine (is_no S 2 8 p (by decide) (by decide) (by decide) (by decide) (by decide)).mono ?_; rintro e w2 ⟨rfl, hb⟩; have S := S.below hb; have e1 := S.er.e1; have e2 := S.er.e2; have e3 := S.er.e3; have e4 := S.er.e4; have e5 := S.er.e5; have e6 := S.er.e6; have e7 := S.er.e7; have e8 := S.e8; have e9 := S.e9; have B := B.trans (hb.mono B.size)))
  go_quiet (fail)
  go_wp2
  go_ret2
  exact ⟨rfl, below_drewN B _⟩
set_option maxRecDepth 8000 in
set_option maxHeartbeats 4000000 in
theorem code_3 (p : Nat) (E : Nat → Addr) (w : World) (S : Sents w E) : Calls Tryz.prog 64 #[wrongV p (E 3)] w fun e w' => e = .returned (.tuple #[.int .i64 3, .int .i64 ((p : Nat) : Int)]) ∧ Below w.heap.size w w' := by
  have B : Below w.heap.size w w := Below.refl _ _
  have e8 := S.e8
  have e9 := S.e9
  go_enter Tryz.func64, Tryz.ntmps64
  go_wp2_with (first
    | (go_at_call 18; have m3 := m2; clear m2; refine (is_wrong_same p (E 3) _).mono ?_; rintro e w2 ⟨rfl, hb⟩; have S := S.below hb; have e1 := S.er.e1; have e2 := S.er.e2; have e3 := S.er.e3; have e4 := S.er.e4; have e5 := S.er.e5; have e6 := S.er.e6; have e7 := S.er.e7; have e8 := S.e8; have e9 := S.e9; have B := B.trans (hb.mono B.size); have pc := Below.cellv hb pc)
    | (go_at_call 18; have m2 := m1; clear m1; refine (is_no S 3 2 p (by decide) (by decide) (by decide) (by decide) (by decide)).mono ?_; rintro e w2 ⟨rfl, hb⟩; have S := S.below hb; have e1 := S.er.e1; have e2 := S.er.e2; have e3 := S.er.e3; have e4 := S.er.e4; have e5 := S.er.e5; have e6 := S.er.e6; have e7 := S.er.e7; have e8 := S.e8; have e9 := S.e9; have B := B.trans (hb.mono B.size); have pc := Below.cellv hb pc)
    | (go_at_call 18; have m1 := mA; clear mA; refine (is_no S 3 1 p (by decide) (by decide) (by decide) (by decide) (by decide)).mono ?_; rintro e w2 ⟨rfl, hb⟩; have S := S.below hb; have e1 := S.er.e1; have e2 := S.er.e2; have e3 := S.er.e3; have e4 := S.er.e4; have e5 := S.er.e5; have e6 := S.er.e6; have e7 := S.er.e7; have e8 := S.e8; have e9 := S.e9; have B := B.trans (hb.mono B.size); have pc := Below.cellv hb pc)
    | (go_at_call 106; have mA := m9; clear m9; go_loud (refine (as_hit p (E 3) _ (.int .i64 0) .nilIface _ (S.below (below1 _ zWrong)).et (by simp) (by simp) (by simp) (by simp)).mono ?_; rintro e w2 ⟨rfl, htA, pc⟩; have hb := touch_below htA; have S := S.touch htA; have e1 := S.er.e1; have e2 := S.er.e2; have e3 := S.er.e3; have e4 := S.er.e4; have e5 := S.er.e5; have e6 := S.er.e6; have e7 := S.er.e7; have e8 := S.e8; have e9 := S.e9; have B := B.trans (hb.mono B.size)))
    | (go_at_call 18; have m9 := m8; clear m8; refine (is_no S 3 9 p (by decide) (by decide) (by decide) (by decide) (by decide)).mono ?_; rintro e w2 ⟨rfl, hb⟩; have S := S.below hb; have e1 := S.er.e1; have e2 := S.er.e2; have e3 := S.er.e3; have e4 := S.er.e4; have e5 := S.er.e5; have e6 := S.er.e6; have e7 := S.er.e7; have e8 := S.e8; have e9 := S.e9; have B := B.trans (hb.mono B.size))
    | (go_at_call 18; have m8 := True.intro; refine (is_no S 3 8 p (by decide) (by decide) (by decide) (by decide) (by decide)).mono ?_; rintro e w2 ⟨rfl, hb⟩; have S := S.below hb; have e1 := S.er.e1; have e2 := S.er.e2; have e3 := S.er.e3; have e4 := S.er.e4; have e5 := S.er.e5; have e6 := S.er.e6; have e7 := S.er.e7; have e8 := S.e8; have e9 := S.e9; have B := B.trans (hb.mono B.size)))
  go_quiet (fail)
  go_wp2
  go_ret2
  exact ⟨rfl, below_drewN B _⟩
set_option maxRecDepth 8000 in
set_option maxHeartbeats 4000000 in
theorem code_4 (p : Nat) (E : Nat → Addr) (w : World) (S : Sents w E) : Calls Tryz.prog 64 #[wrongV p (E 4)] w fun e w' => e = .returned (.tuple #[.int .i64 4, .int .i64 ((p : Nat) : Int)]) ∧ Below w.heap.size w w' := by
  have B : Below w.heap.size w w := Below.refl _ _
  have e8 := S.e8
  have e9 := S.e9
  go_enter Tryz.func64, Tryz.ntmps64
  go_wp2_with (first
    | (go_at_call 18; have m4 := m3; clear m3; refine (is_wrong_same p (E 4) _).mono ?_; rintro e w2 ⟨rfl, hb⟩; have S := S.below hb; have e1 := S.er.e1; have e2 := S.er.e2; have e3 := S.er.e3; have e4 := S.er.e4; have e5 := S.er.e5; have e6 := S.er.e6; have e7 := S.er.e7; have e8 := S.e8; have e9 := S.e9; have B := B.trans (hb.mono B.size); have pc := Below.cellv hb pc)
    | (go_at_call 18; have m3 := m2; clear m2; refine (is_no S 4 3 p (by decide) (by decide) (by decide) (by decide) (by decide)).mono ?_; rintro e w2 ⟨rfl, hb⟩; have S := S.below hb; have e1 := S.er.e1; have e2 := S.er.e2; have e3 := S.er.e3; have e4 := S.er.e4; have e5 := S.er.e5; have e6 := S.er.e6; have e7 := S.er.e7; have e8 := S.e8; have e9 := S.e9; have B := B.trans (hb.mono B.size); have pc := Below.cellv hb pc)
    | (go_at_call 18; have m2 := m1; clear m1; refine (is_no S 4 2 p (by decide) (by decide) (by decide) (by decide) (by decide)).mono ?_; rintro e w2 ⟨rfl, hb⟩; have S := S.below hb; have e1 := S.er.e1; have e2 := S.er.e2; have e3 := S.er.e3; have e4 := S.er.e4; have e5 := S.er.e5; have e6 := S.er.e6; have e7 := S.er.e7; have e8 := S.e8; have e9 := S.e9; have B := B.trans (hb.mono B.size); have pc := Below.cellv hb pc)
    | (go_at_call 18; have m1 := mA; clear mA; refine (is_no S 4 1 p (by decide) (by decide) (by decide) (by decide) (by decide)).mono ?_; rintro e w2 ⟨rfl, hb⟩; have S := S.below hb; have e1 := S.er.e1; have e2 := S.er.e2; have e3 := S.er.e3; have e4 := S.er.e4; have e5 := S.er.e5; have e6 := S.er.e6; have e7 := S.er.e7; have e8 := S.e8; have e9 := S.e9; have B := B.trans (hb.mono B.size); have pc := Below.cellv hb pc)
    | (go_at_call 106; have mA := m9; clear m9; go_loud (refine (as_hit p (E 4) _ (.int .i64 0) .nilIface _ (S.below (below1 _ zWrong)).et (by simp) (by simp) (by simp) (by simp)).mono ?_; rintro e w2 ⟨rfl, htA, pc⟩; have hb := touch_below htA; have S := S.touch htA; have e1 := S.er.e1; have e2 := S.er.e2; have e3 := S.er.e3; have e4 := S.er.e4; have e5 := S.er.e5; have e6 := S.er.e6; have e7 := S.er.e7; have e8 := S.e8; have e9 := S.e9; have B := B.trans (hb.mono B.size)))
    | (go_at_call 18; have m9 := m8; clear m8; refine (is_no S 4 9 p (by decide) (by decide) (by decide) (by decide) (by decide)).mono ?_; rintro e w2 ⟨rfl, hb⟩; have S := S.below hb; have e1 := S.er.e1; have e2 := S.er.e2; have e3 := S.er.e3; have e4 := S.er.e4; have e5 := S.er.e5; have e6 := S.er.e6; have e7 := S.er.e7; have e8 := S.e8; have e9 := S.e9; have B := B.trans (hb.mono B.size))
    | (go_at_call 18; have m8 := True.intro; refine (is_no S 4 8 p (by decide) (by decide) (by decide) (by decide) (by decide)).mono ?_; rintro e w2 ⟨rfl, hb⟩; have S := S.below hb; have e1 := S.er.e1; have e2 := S.er.e2; have e3 := S.er.e3; have e4 := S.er.e4; have e5 := S.er.e5; have e6 := S.er.e6; have e7 := S.er.e7; have e8 := S.e8; have e9 := S.e9; have B := B.trans (hb.mono B.size)))
  go_quiet (fail)
  go_wp2
  go_ret2
  exact ⟨rfl, below_drewN B _⟩
set_option maxRecDepth 8000 in
set_option maxHeartbeats 4000000 in
theorem code_5 (p : Nat) (E : Nat → Addr) (w : World) (S : Sents w E) : Calls Tryz.prog 64 #[wrongV p (E 5)] w fun e w' => e = .returned (.tuple #[.int .i64 5, .int .i64 ((p : Nat) : Int)]) ∧ Below w.heap.size w w' := by
  have B : Below w.heap.size w w := Below.refl _ _
  have e8 := S.e8
  have e9 := S.e9
  go_enter Tryz.func64, Tryz.ntmps64
  go_wp2_with (first
    | (go_at_call 18; have m5 := m4; clear m4; refine (is_wrong_same p (E 5) _).mono ?_; rintro e w2 ⟨rfl, hb⟩; have S := S.below hb; have e1 := S.er.e1; have e2 := S.er.e2; have e3 := S.er.e3; have e4 := S.er.e4; have e5 := S.er.e5; have e6 := S.er.e6; have e7 := S.er.e7; have e8 := S.e8; have e9 := S.e9; have B := B.trans (hb.mono B.size); have pc := Below.cellv hb pc)
    | (go_at_call 18; have m4 := m3; clear m3; refine (is_no S 5 4 p (by decide) (by decide) (by decide) (by decide) (by decide)).mono ?_; rintro e w2 ⟨rfl, hb⟩; have S := S.below hb; have e1 := S.er.e1; have e2 := S.er.e2; have e3 := S.er.e3; have e4 := S.er.e4; have e5 := S.er.e5; have e6 := S.er.e6; have e7 := S.er.e7; have e8 := S.e8; have e9 := S.e9; have B := B.trans (hb.mono B.size); have pc := Below.cellv hb pc)
    | (go_at_call 18; have m3 := m2; clear m2; refine (is_no S 5 3 p (by decide) (by decide) (by decide) (by decide) (by decide)).mono ?_; rintro e w2 ⟨rfl, hb⟩; have S := S.below hb; have e1 := S.er.e1; have e2 := S.er.e2; have e3 := S.er.e3; have e4 := S.er.e4; have e5 := S.er.e5; have e6 := S.er.e6; have e7 := S.er.e7; have e8 := S.e8; have e9 := S.e9; have B := B.trans (hb.mono B.size); have pc := Below.cellv hb pc)
    | (go_at_call 18; have m2 := m1; clear m1; refine (is_no S 5 2 p (by decide) (by decide) (by decide) (by decide) (by decide)).mono ?_; rintro e w2 ⟨rfl, hb⟩; have S := S.below hb; have e1 := S.er.e1; have e2 := S.er.e2; have e3 := S.er.e3; have e4 := S.er.e4; have e5 := S.er.e5; have e6 := S.er.e6; have e7 := S.er.e7; have e8 := S.e8; have e9 := S.e9; have B := B.trans (hb.mono B.size); have pc := Below.cellv hb pc)
    | (go_at_call 18; have m1 := mA; clear mA; refine (is_no S 5 1 p (by decide) (by decide) (by decide) (by decide) (by decide)).mono ?_; rintro e w2 ⟨rfl, hb⟩; have S := S.below hb; have e1 := S.er.e1; have e2 := S.er.e2; have e3 := S.er.e3; have e4 := S.er.e4; have e5 := S.er.e5; have e6 := S.er.e6; have e7 := S.er.e7; have e8 := S.e8; have e9 := S.e9; have B := B.trans (hb.mono B.size); have pc := Below.cellv hb pc)
    | (go_at_call 106; have mA := m9; clear m9; go_loud (refine (as_hit p (E 5) _ (.int .i64 0) .nilIface _ (S.below (below1 _ zWrong)).et (by simp) (by simp) (by simp) (by simp)).mono ?_; rintro e w2 ⟨rfl, htA, pc⟩; have hb := touch_below htA; have S := S.touch htA; have e1 := S.er.e1; have e2 := S.er.e2; have e3 := S.er.e3; have e4 := S.er.e4; have e5 := S.er.e5; have e6 := S.er.e6; have e7 := S.er.e7; have e8 := S.e8; have e9 := S.e9; have B := B.trans (hb.mono B.size)))
    | (go_at_call 18; have m9 := m8; clear m8; refine (is_no S 5 9 p (by decide) (by decide) (by decide) (by decide) (by decide)).mono ?_; rintro e w2 ⟨rfl, hb⟩; have S := S.below hb; have e1 := S.er.e1; have e2 := S.er.e2; have e3 := S.er.e3; have e4 := S.er.e4; have e5 := S.er.e5; have e6 := S.er.e6; have e7 := S.er.e7; have e8 := S.e8; have e9 := S.e9; have B := B.trans (hb.mono B.size))
    | (go_at_call 18; have m8 := True.intro; refine (is_no S 5 8 p (by decide) (by decide) (by decide) (by decide) (by decide)).mono ?_; rintro e w2 ⟨rfl, hb⟩; have S := S.below hb; have e1 := S.er.e1; have e2 := S.er.e2; have e3 := S.er.e3; have e4 := S.er.e4; have e5 := S.er.e5; have e6 := S.er.e6; have e7 := S.er.e7; have e8 := S.e8; have e9 := S.e9; have B := B.trans (hb.mono B.size)))
  go_quiet (fail)
  go_wp2
  go_ret2
  exact ⟨rfl, below_drewN B _⟩
set_option maxRecDepth 8000 in
set_option maxHeartbeats 4000000 in
theorem code_6 (p : Nat) (E : Nat → Addr) (w : World) (S : Sents w E) : Calls Tryz.prog 64 #[wrongV p (E 6)] w fun e w' => e = .returned (.tuple #[.int .i64 6, .int .i64 ((p : Nat) : Int)]) ∧ Below w.heap.size w w' := by
  have B : Below w.heap.size w w := Below.refl _ _
  have e8 := S.e8
  have e9 := S.e9
  go_enter Tryz.func64, Tryz.ntmps64
  go_wp2_with (first
    | (go_at_call 18; have m6 := m5; clear m5; refine (is_wrong_same p (E 6) _).mono ?_; rintro e w2 ⟨rfl, hb⟩; have S := S.below hb; have e1 := S.er.e1; have e2 := S.er.e2; have e3 := S.er.e3; have e4 := S.er.e4; have e5 := S.er.e5; have e6 := S.er.e6; have e7 := S.er.e7; have e8 := S.e8; have e9 := S.e9; have B := B.trans (hb.mono B.size); have pc := Below.cellv hb pc)
    | (go_at_call 18; have m5 := m4; clear m4; refine (is_no S 6 5 p (by decide) (by decide) (by decide) (by decide) (by decide)).mono ?_; rintro e w2 ⟨rfl, hb⟩; have S := S.below hb; have e1 := S.er.e1; have e2 := S.er.e2; have e3 := S.er.e3; have e4 := S.er.e4; have e5 := S.er.e5; have e6 := S.er.e6; have e7 := S.er.e7; have e8 := S.e8; have e9 := S.e9; have B := B.trans (hb.mono B.size); have pc := Below.cellv hb pc)
    | (go_at_call 18; have m4 := m3; clear m3; refine (is_no S 6 4 p (by decide) (by decide) (by decide) (by decide) (by decide)).mono ?_; rintro e w2 ⟨rfl, hb⟩; have S := S.below hb; have e1 := S.er.e1; have e2 := S.er.e2; have e3 := S.er.e3; have e4 := S.er.e4; have e5 := S.er.e5; have e6 := S.er.e6; have e7 := S.er.e7; have e8 := S.e8; have e9 := S.e9; have B := B.trans (hb.mono B.size); have pc := Below.cellv hb pc)
    | (go_at_call 18; have m3 := m2; clear m2; refine (is_no S 6 3 p (by decide) (by decide) (by decide) (by decide) (by decide)).mono ?_; rintro e w2 ⟨rfl, hb⟩; have S := S.below hb; have e1 := S.er.e1; have e2 := S.er.e2; have e3 := S.er.e3; have e4 := S.er.e4; have e5 := S.er.e5; have e6 := S.er.e6; have e7 := S.er.e7; have e8 := S.e8; have e9 := S.e9; have B := B.trans (hb.mono B.size); have pc := Below.cellv hb pc)
    | (go_at_call 18; have m2 := m1; clear m1; refine (is_no S 6 2 p (by decide) (by decide) (by decide) (by decide) (by decide)).mono ?_; rintro e w2 ⟨rfl, hb⟩; have S := S.below hb; have e1 := S.er.e1; have e2 := S.er.e2; have e3 := S.er.e3; have e4 := S.er.e4; have e5 := S.er.e5; have e6 := S.er.e6; have e7 := S.er.e7; have e8 := S.e8; have e9 := S.e9; have B := B.trans (hb.mono B.size); have pc := Below.cellv hb pc)
    | (go_at_call 18; have m1 := mA; clear mA; refine (is_no S 6 1 p (by decide) (by decide) (by decide) (by decide) (by decide)).mono ?_; rintro e w2 ⟨rfl, hb⟩; have S := S.below hb; have e1 := S.er.e1; have e2 := S.er.e2; have e3 := S.er.e3; have e4 := S.er.e4; have e5 := S.er.e5; have e6 := S.er.e6; have e7 := S.er.e7; have e8 := S.e8; have e9 := S.e9; have B := B.trans (hb.mono B.size); have pc := Below.cellv hb pc)
    | (go_at_call 106; have mA := m9; clear m9; go_loud (refine (as_hit p (E 6) _ (.int .i64 0) .nilIface _ (S.below (below1 _ zWrong)).et (by simp) (by simp) (by simp) (by simp)).mono ?_; rintro e w2 ⟨rfl, htA, pc⟩; have hb := touch_below htA; have S := S.touch htA; have e1 := S.er.e1; have e2 := S.er.e2; have e3 := S.er.e3; have e4 := S.er.e4; have e5 := S.er.e5; have e6 := S.er.e6; have e7 := S.er.e7; have e8 := S.e8; have e9 := S.e9; have B := B.trans (hb.mono B.size)))
    | (go_at_call 18; have m9 := m8; clear m8; refine (is_no S 6 9 p (by decide) (by decide) (by decide) (by decide) (by decide)).mono ?_; rintro e w2 ⟨rfl, hb⟩; have S := S.below hb; have e1 := S.er.e1; have e2 := S.er.e2; have e3 := S.er.e3; have e4 := S.er.e4; have e5 := S.er.e5; have e6 := S.er.e6; have e7 := S.er.e7; have e8 := S.e8; have e9 := S.e9; have B := B.trans (hb.mono B.size))
    | (go_at_call 18; have m8 := True.intro; refine (is_no S 6 8 p (by decide) (by decide) (by decide) (by decide) (by decide)).mono ?_; rintro e w2 ⟨rfl, hb⟩; have S := S.below hb; have e1 := S.er.e1; have e2 := S.er.e2; have e3 := S.er.e3; have e4 := S.er.e4; have e5 := S.er.e5; have e6 := S.er.e6; have e7 := S.er.e7; have e8 := S.e8; have e9 := S.e9; have B := B.trans (hb.mono B.size)))
  go_quiet (fail)
  go_wp2
  go_ret2
  exact ⟨rfl, below_drewN B _⟩
set_option maxRecDepth 8000 in
set_option maxHeartbeats 4000000 in
theorem code_7 (p : Nat) (E : Nat → Addr) (w : World) (S : Sents w E) : Calls Tryz.prog 64 #[wrongV p (E 7)] w fun e w' => e = .returned (.tuple #[.int .i64 7, .int .i64 ((p : Nat) : Int)]) ∧ Below w.heap.size w w' := by
  have B : Below w.heap.size w w := Below.refl _ _
  have e8 := S.e8
  have e9 := S.e9
  go_enter Tryz.func64, Tryz.ntmps64
  go_wp2_with (first
    | (go_at_call 18; have m7 := m6; clear m6; refine (is_wrong_same p (E 7) _).mono ?_; rintro e w2 ⟨rfl, hb⟩; have S := S.below hb; have e1 := S.er.e1; have e2 := S.er.e2; have e3 := S.er.e3; have e4 := S.er.e4; have e5 := S.er.e5; have e6 := S.er.e6; have e7 := S.er.e7; have e8 := S.e8; have e9 := S.e9; have B := B.trans (hb.mono B.size); have pc := Below.cellv hb pc)
    | (go_at_call 18; have m6 := m5; clear m5; refine (is_no S 7 6 p (by decide) (by decide) (by decide) (by decide) (by decide)).mono ?_; rintro e w2 ⟨rfl, hb⟩; have S := S.below hb; have e1 := S.er.e1; have e2 := S.er.e2; have e3 := S.er.e3; have e4 := S.er.e4; have e5 := S.er.e5; have e6 := S.er.e6; have e7 := S.er.e7; have e8 := S.e8; have e9 := S.e9; have B := B.trans (hb.mono B.size); have pc := Below.cellv hb pc)
    | (go_at_call 18; have m5 := m4; clear m4; refine (is_no S 7 5 p (by decide) (by decide) (by decide) (by decide) (by decide)).mono ?_; rintro e w2 ⟨rfl, hb⟩; have S := S.below hb; have e1 := S.er.e1; have e2 := S.er.e2; have e3 := S.er.e3; have e4 := S.er.e4; have e5 := S.er.e5; have e6 := S.er.e6; have e7 := S.er.e7; have e8 := S.e8; have e9 := S.e9; have B := B.trans (hb.mono B.size); have pc := Below.cellv hb pc)
    | (go_at_call 18; have m4 := m3; clear m3; refine (is_no S 7 4 p (by decide) (by decide) (by decide) (by decide) (by decide)).mono ?_; rintro e w2 ⟨rfl, hb⟩; have S := S.below hb; have e1 := S.er.e1; have e2 := S.er.e2; have e3 := S.er.e3; have e4 := S.er.e4; have e5 := S.er.e5; have e6 := S.er.e6; have e7 := S.er.e7; have e8 := S.e8; have e9 := S.e9; have B := B.trans (hb.mono B.size); have pc := Below.cellv hb pc)
    | (go_at_call 18; have m3 := m2; clear m2; refine (is_no S 7 3 p (by decide) (by decide) (by decide) (by decide) (by decide)).mono ?_; rintro e w2 ⟨rfl, hb⟩; have S := S.below hb; have e1 := S.er.e1; have e2 := S.er.e2; have e3 := S.er.e3; have e4 := S.er.e4; have e5 := S.er.e5; have e6 := S.er.e6; have e7 := S.er.e7; have e8 := S.e8; have e9 := S.e9; have B := B.trans (hb.mono B.size); have pc := Below.cellv hb pc)
    | (go_at_call 18; have m2 := m1; clear m1; refine (is_no S 7 2 p (by decide) (by decide) (by decide) (by decide) (by decide)).mono ?_; rintro e w2 ⟨rfl, hb⟩; have S := S.below hb; have e1 := S.er.e1; have e2 := S.er.e2; have e3 := S.er.e3; have e4 := S.er.e4; have e5 := S.er.e5; have e6 := S.er.e6; have e7 := S.er.e7; have e8 := S.e8; have e9 := S.e9; have B := B.trans (hb.mono B.size); have pc := Below.cellv hb pc)
    | (go_at_call 18; have m1 := mA; clear mA; refine (is_no S 7 1 p (by decide) (by decide) (by decide) (by decide) (by decide)).mono ?_; rintro e w2 ⟨rfl, hb⟩; have S := S.below hb; have e1 := S.er.e1; have e2 := S.er.e2; have e3 := S.er.e3; have e4 := S.er.e4; have e5 := S.er.e5; have e6 := S.er.e6; have e7 := S.er.e7; have e8 := S.e8; have e9 := S.e9; have B := B.trans (hb.mono B.size); have pc := Below.cellv hb pc)
    | (go_at_call 106; have mA := m9; clear m9; go_loud (refine (as_hit p (E 7) _ (.int .i64 0) .nilIface _ (S.below (below1 _ zWrong)).et (by simp) (by simp) (by simp) (by simp)).mono ?_; rintro e w2 ⟨rfl, htA, pc⟩; have hb := touch_below htA; have S := S.touch htA; have e1 := S.er.e1; have e2 := S.er.e2; have e3 := S.er.e3; have e4 := S.er.e4; have e5 := S.er.e5; have e6 := S.er.e6; have e7 := S.er.e7; have e8 := S.e8; have e9 := S.e9; have B := B.trans (hb.mono B.size)))
    | (go_at_call 18; have m9 := m8; clear m8; refine (is_no S 7 9 p (by decide) (by decide) (by decide) (by decide) (by decide)).mono ?_; rintro e w2 ⟨rfl, hb⟩; have S := S.below hb; have e1 := S.er.e1; have e2 := S.er.e2; have e3 := S.er.e3; have e4 := S.er.e4; have e5 := S.er.e5; have e6 := S.er.e6; have e7 := S.er.e7; have e8 := S.e8; have e9 := S.e9; have B := B.trans (hb.mono B.size))
    | (go_at_call 18; have m8 := True.intro; refine (is_no S 7 8 p (by decide) (by decide) (by decide) (by decide) (by decide)).mono ?_; rintro e w2 ⟨rfl, hb⟩; have S := S.below hb; have e1 := S.er.e1; have e2 := S.er.e2; have e3 := S.er.e3; have e4 := S.er.e4; have e5 := S.er.e5; have e6 := S.er.e6; have e7 := S.er.e7; have e8 := S.e8; have e9 := S.e9; have B := B.trans (hb.mono B.size)))
  go_quiet (fail)
  go_wp2
  go_ret2
  exact ⟨rfl, below_drewN B _⟩
end Go.Proofs.YtdiefbahmcihlaaGreatDoor
