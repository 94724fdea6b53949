/-
  Back: shape.
-/
import Derived.Test.YtifhgjpglicjbaaGreatDoorRdB
namespace Go.Proofs.YtifhgjpglicjbaaGreatDoor
open Go.RowKit Go.Lib
attribute [local go_sem ↓] Go.wp_at_zero Go.wp_at_succ

def intsV (l : List Int) : List Value := l.map (Value.int .i64)
def ksP (d : Nat) (raw : List Int) (w : World) (e : Ending) (w' : World) : Prop :=
  e = .returned (.tuple #[.string ⟨(wrV (shapeA d raw).1).toArray⟩, .int .i64 (((shapeA d raw).2 : Nat) : Int)]) ∧ Below w.heap.size w w'
/-- Numbers that are handed in. -/
def IntsAt (w : World) (sl : Value) (l : List Int) : Prop := ∃ ad cap, sl = .slice ad l.length cap ∧ l.length ≤ cap ∧ cap ≤ maxLen ∧ ∀ j (hj : j < l.length), ∃ g o, ad = some ⟨g, o, none⟩ ∧ w.cell? ⟨g, o + j, none⟩ = some (.int .i64 l[j])
theorem IntsAt.slice {w : World} {sl : Value} {l : List Int} (h : IntsAt w sl l) : ∃ ad cap, sl = .slice ad l.length cap := by
  obtain ⟨ad, cap, h1, _⟩ := h
  exact ⟨ad, cap, h1⟩
theorem IntsAt.cell {w : World} {sl : Value} {l : List Int} (h : IntsAt w sl l) (hn : 0 < l.length) : ∃ g o cap, sl = .slice (some ⟨g, o, none⟩) l.length cap ∧ True ∧ l.length ≤ cap ∧ cap ≤ maxLen ∧ ∀ j, j < l.length * 1 → w.cell? ⟨g, o + j, none⟩ = (intsV l)[j]? := by
  obtain ⟨ad, cap, h1, h2, h3, h4⟩ := h
  obtain ⟨g, o, rfl, _⟩ := h4 0 hn
  refine ⟨g, o, cap, h1, trivial, h2, h3, fun j hj => ?_⟩
  have hj : j < l.length := by omega
  obtain ⟨g', o', e, hc⟩ := h4 j hj
  cases e
  rw [hc, intsV, List.getElem?_map, List.getElem?_eq_getElem hj]
  rfl
theorem IntsAt.below {w w' : World} {sl : Value} {l : List Int} (h : IntsAt w sl l) (hb : Below w.heap.size w w') : IntsAt w' sl l := by
  obtain ⟨ad, cap, h1, h2, h3, h4⟩ := h
  exact ⟨ad, cap, h1, h2, h3, fun j hj => by
    obtain ⟨g, o, e, hc⟩ := h4 j hj
    exact ⟨g, o, e, Below.cellv hb hc⟩⟩
set_option maxRecDepth 8000 in
set_option maxHeartbeats 1000000 in
theorem shape_nil (d : Nat) (sl : Value) (w : World) (h : IntsAt w sl []) : Calls Tryz.prog 13 #[sl, .int .i64 ((d : Nat) : Int)] w (ksP d [] w) := by
  obtain ⟨ad, cap, rfl⟩ := h.slice
  have FI : Hid (ksP d [] w (.returned (.tuple #[.string ⟨#[48]⟩, .int .i64 0])) w) := by
    have : shapeA d [] = (.num 0, 0) := by cases d <;> rfl
    have i0 : itoa 0 = [48] := by decide +kernel
    refine ⟨?_, Below.refl _ _⟩
    rw [this, wrV, i0]
    rfl
  clear h
  simp only [List.length_nil]
  go_enter Tryz.func13, Tryz.ntmps13
  go_wp2_with fail
  go_ret2
  exact FI.out
set_option maxRecDepth 8000 in
set_option maxHeartbeats 1000000 in
/-- A number. -/
theorem shape_num (d : Nat) (a : Int) (r : List Int) (sl : Value) (w : World) (h : IntsAt w sl (a :: r)) (ha : In64 a) (hl : (a :: r).length ≤ 60) (hk : pickA a 6 < 2 ∨ d = 0) : Calls Tryz.prog 13 #[sl, .int .i64 ((d : Nat) : Int)] w (ksP d (a :: r) w) := by
  obtain ⟨g, o, cap, rfl, _, h1, h2, hc⟩ := h.cell (by simp)
  have c0 : w.cell? ⟨g, o, none⟩ = some (.int .i64 a) := by have := hc 0 (by simp); simpa [intsV] using this
  have CP : Hid (∀ X, Calls Tryz.prog 10 #[.int .i64 a, .int .i64 6] X fun e w' => e = .returned (.int .i64 ((pickA a 6 : Nat) : Int)) ∧ w' = X) := fun X => pick_any a 6 X ha (by omega) (by omega)
  have CN : Hid (∀ X, Calls Tryz.prog 9 #[.int .i64 (a.tdiv 6)] X fun e w' => e = .returned (.string ⟨(itoa (a.tdiv 6)).toArray⟩) ∧ w' = X) := fun X => number_any (a.tdiv 6) X (tdiv6 ha)
  have FI : Hid (ksP d (a :: r) w (.returned (.tuple #[.string ⟨(itoa (a.tdiv 6)).toArray⟩, .int .i64 1])) w) := by
    have : shapeA d (a :: r) = (.num (a.tdiv 6), 1) := by
      cases d with
      | zero => rfl
      | succ d =>
        have hk : pickA a 6 < 2 := by rcases hk with h | h; exact h; cases h
        rw [shapeA, if_pos (by omega), leafS, if_pos hk]
    refine ⟨?_, Below.refl _ _⟩
    rw [this, wrV]
    rfl
  obtain ⟨ha1, ha2⟩ : -9223372036854775808 ≤ a ∧ a ≤ 9223372036854775807 := ha
  have hk6 : pickA a 6 < 6 := pickA_lt (by omega)
  have hln : ((r.length : Nat) : Int) ≤ 60 := by simp at hl; omega
  unfold maxLen at h2
  simp only [List.length_cons] at *
  generalize pickA a 6 = k at *
  generalize itoa (a.tdiv 6) = S at *
  clear h hc
  by_cases hk2 : k < 2
  · have hk2i : (k : Int) < 2 := by omega
    go_enter Tryz.func13, Tryz.ntmps13
    go_wp2_with (first | (go_at_call 10; refine (CP.out _).mono ?_; rintro e w1 ⟨rfl, rfl⟩) | (go_at_call 9; refine (CN.out _).mono ?_; rintro e w1 ⟨rfl, rfl⟩))
    go_ret2
    exact FI.out
  · have hk2i : ¬ (k : Int) < 2 := by omega
    have hd : d = 0 := by omega
    subst hd
    go_enter Tryz.func13, Tryz.ntmps13
    go_wp2_with (first | (go_at_call 10; refine (CP.out _).mono ?_; rintro e w1 ⟨rfl, rfl⟩) | (go_at_call 9; refine (CN.out _).mono ?_; rintro e w1 ⟨rfl, rfl⟩))
    go_ret2
    exact FI.out
set_option maxRecDepth 8000 in
set_option maxHeartbeats 4000000 in
/-- A text. -/
theorem shape_txt (d : Nat) (a : Int) (r : List Int) (sl : Value) (w : World) (h : IntsAt w sl (a :: r)) (ha : In64 a) (hl : (a :: r).length ≤ 60) (hk : ¬ pickA a 6 < 2) (hk4 : pickA a 6 < 4) (hd : 0 < d) (hd5 : d ≤ 5) : Calls Tryz.prog 13 #[sl, .int .i64 ((d : Nat) : Int)] w (ksP d (a :: r) w) := by
  obtain ⟨g, o, cap, rfl, _, h1, h2, hc⟩ := h.cell (by simp)
  have c0 : w.cell? ⟨g, o, none⟩ = some (.int .i64 a) := by have := hc 0 (by simp); simpa [intsV] using this
  have hgl : g < w.heap.size := cell_lt c0
  have CP : Hid (∀ X, Calls Tryz.prog 10 #[.int .i64 a, .int .i64 6] X fun e w' => e = .returned (.int .i64 ((pickA a 6 : Nat) : Int)) ∧ w' = X) := fun X => pick_any a 6 X ha (by omega) (by omega)
  have CQ : Hid (∀ X, Calls Tryz.prog 10 #[.int .i64 (a.tdiv 6), .int .i64 6] X fun e w' => e = .returned (.int .i64 ((pickA (a.tdiv 6) 6 : Nat) : Int)) ∧ w' = X) := fun X => pick_any (a.tdiv 6) 6 X (tdiv6 ha) (by omega) (by omega)
  have FI : Hid (∀ X, Below w.heap.size w X → ksP d (a :: r) w (.returned (.tuple #[.string ⟨(39 :: (sixA (pickA (a.tdiv 6) 6) ++ [39])).toArray⟩, .int .i64 1])) X) := fun X hX => by
    have : shapeA d (a :: r) = (.txt (sixA (pickA (a.tdiv 6) 6)), 1) := by
      cases d with
      | zero => omega
      | succ d => rw [shapeA, if_pos (by omega), leafS, if_neg hk]
    refine ⟨?_, hX⟩
    rw [this, wrV]
    rfl
  obtain ⟨ha1, ha2⟩ : -9223372036854775808 ≤ a ∧ a ≤ 9223372036854775807 := ha
  have hln : ((r.length : Nat) : Int) ≤ 60 := by simp at hl; omega
  have hj := pickA_lt (c := a.tdiv 6) (n := 6) (by omega)
  unfold maxLen at h2
  simp only [List.length_cons] at *
  generalize pickA a 6 = k at *
  generalize pickA (a.tdiv 6) 6 = j at *
  have hk2i : ¬ (k : Int) < 2 := by omega
  have hk4i : (k : Int) < 4 := by omega
  have hdi : (0 : Int) < (d : Int) := by omega
  have hd5i : (d : Int) ≤ 5 := by omega
  have hdn : ((d : Int) == 0) = false := by simp; omega
  have hk2d : decide ((k : Int) < 2) = false := by simp; omega
  clear h hc
  have hj6 : j = 0 ∨ j = 1 ∨ j = 2 ∨ j = 3 ∨ j = 4 ∨ j = 5 := by omega
  clear hj
  rcases hj6 with rfl | rfl | rfl | rfl | rfl | rfl
  all_goals
    go_enter Tryz.func13, Tryz.ntmps13
    go_wp2_with (first | (go_at_call 10; refine (CP.out _).mono ?_; rintro e w1 ⟨rfl, rfl⟩; clear CP) | (go_at_call 10; refine (CQ.out _).mono ?_; rintro e w1 ⟨rfl, rfl⟩))
    go_ret2
    exact FI.out _ (below1 _ _)
end Go.Proofs.YtifhgjpglicjbaaGreatDoor
