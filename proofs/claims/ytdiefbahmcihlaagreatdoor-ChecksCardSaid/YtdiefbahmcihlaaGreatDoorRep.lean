/-
  Exprs of the implementation as they lie in memory: which values stand for which expr, and what of memory that hangs on.
-/
import Derived.Test.YtdiefbahmcihlaaGreatDoorParD
import Derived.Test.YtdiefbahmcihlaaGreatDoorTouch
import Derived.Test.YtdiefbahmcihlaaGreatDoorVal
namespace Go.Proofs.YtdiefbahmcihlaaGreatDoor
open Go.RowKit

/-- The value of a form out of those of its exprs. -/
def FormV (w : World) (D : Nat → Prop) (sp : Nat) (wd n : List UInt8) (at_ : Nat) (vs : List Value) (v : Value) : Prop :=
  (wd = [108, 105, 115, 116] ∧ ∃ sl, v = .iface 410 (.agg #[.int .i64 ((sp : Nat) : Int), sl]) ∧ RowAt w D 81 1 sl vs.length vs) ∨
  (wd = [99, 97, 108, 108] ∧ ∃ (nb : ByteArray) (sl : Value), nb.data.toList = n ∧ nb.size ≤ 2000 ∧ v = .iface 404 (.agg #[.int .i64 ((sp : Nat) : Int), .string nb, .int .i64 ((at_ : Nat) : Int), sl]) ∧ RowAt w D 81 1 sl vs.length vs) ∨
  (wd = [109, 97, 112] ∧ ∃ (nb : ByteArray) (v0 : Value), nb.data.toList = n ∧ nb.size ≤ 2000 ∧ vs = [v0] ∧ v = .iface 408 (.agg #[.int .i64 ((sp : Nat) : Int), .string nb, .int .i64 ((at_ : Nat) : Int), v0])) ∨
  (wd = [108, 101, 116] ∧ ∃ (nb : ByteArray) (v0 v1 : Value), nb.data.toList = n ∧ nb.size ≤ 2000 ∧ vs = [v0, v1] ∧ v = .iface 401 (.agg #[.int .i64 ((sp : Nat) : Int), .string nb, .int .i64 ((at_ : Nat) : Int), v0, v1])) ∨
  (wd = [105, 102] ∧ ∃ v0 v1 v2, vs = [v0, v1, v2] ∧ v = .iface 412 (.agg #[.int .i64 ((sp : Nat) : Int), v0, v1, v2])) ∨
  (wd = [115, 101, 116] ∧ ∃ v0 v1 v2, vs = [v0, v1, v2] ∧ v = .iface 414 (.agg #[.int .i64 ((sp : Nat) : Int), v0, v1, v2])) ∨
  (wd = [108, 101, 110] ∧ ∃ v0, vs = [v0] ∧ v = .iface 419 (.agg #[.int .i64 ((sp : Nat) : Int), v0])) ∨
  (shapeL wd = some (false, 2) ∧ ∃ (ob : ByteArray) (v0 v1 : Value), ob.data.toList = wd ∧ vs = [v0, v1] ∧ v = .iface 417 (.agg #[.int .i64 ((sp : Nat) : Int), .string ob, v0, v1]))
theorem FormV.map {w w' : World} {D D' : Nat → Prop} {sp : Nat} {wd n : List UInt8} {at_ : Nat} {vs : List Value} {v : Value} (h : FormV w D sp wd n at_ vs v) (hR : ∀ sl, RowAt w D 81 1 sl vs.length vs → RowAt w' D' 81 1 sl vs.length vs) : FormV w' D' sp wd n at_ vs v := by
  rcases h with ⟨a, sl, b, c⟩ | ⟨a, nb, sl, b, c, d, e⟩ | h | h | h | h | h | h
  · exact Or.inl ⟨a, sl, b, hR sl c⟩
  · exact Or.inr (Or.inl ⟨a, nb, sl, b, c, d, hR sl e⟩)
  · exact Or.inr (Or.inr (Or.inl h))
  · exact Or.inr (Or.inr (Or.inr (Or.inl h)))
  · exact Or.inr (Or.inr (Or.inr (Or.inr (Or.inl h))))
  · exact Or.inr (Or.inr (Or.inr (Or.inr (Or.inr (Or.inl h)))))
  · exact Or.inr (Or.inr (Or.inr (Or.inr (Or.inr (Or.inr (Or.inl h))))))
  · exact Or.inr (Or.inr (Or.inr (Or.inr (Or.inr (Or.inr (Or.inr h))))))

mutual
/-- v stands for the expr, in blocks that D allows. -/
def RepE (w : World) (D : Nat → Prop) : Ex → Value → Prop
  | .num b, v => ∃ sp : Nat, v = .iface 427 (.agg #[.int .i64 ((sp : Nat) : Int), .int .i64 (numVal b)])
  | .txt b, v => ∃ (sp : Nat) (bb : ByteArray), bb.data.toList = b ∧ v = .iface 429 (.agg #[.int .i64 ((sp : Nat) : Int), .string bb])
  | .var n a, v => ∃ nb : ByteArray, nb.data.toList = n ∧ v = .iface 399 (.agg #[.int .i64 ((a : Nat) : Int), .string nb])
  | .form wd n a ks, v => ∃ (sp : Nat) (vs : List Value), RepEs w D ks vs ∧ FormV w D sp wd n a vs v
def RepEs (w : World) (D : Nat → Prop) : List Ex → List Value → Prop
  | [], vs => vs = []
  | e :: es, vs => ∃ v r, vs = v :: r ∧ RepE w D e v ∧ RepEs w D es r
end

mutual
theorem RepE.map {w w' : World} {D D' : Nat → Prop} (hR : ∀ sl n vs, RowAt w D 81 1 sl n vs → RowAt w' D' 81 1 sl n vs) : ∀ {e : Ex} {v : Value}, RepE w D e v → RepE w' D' e v
  | .num b, v, h => by rw [RepE] at h ⊢; exact h
  | .txt b, v, h => by rw [RepE] at h ⊢; exact h
  | .var n a, v, h => by rw [RepE] at h ⊢; exact h
  | .form wd n a ks, v, h => by
    rw [RepE] at h ⊢
    obtain ⟨sp, vs, h1, h2⟩ := h
    exact ⟨sp, vs, RepEs.map hR h1, h2.map fun sl hs => hR sl _ _ hs⟩
theorem RepEs.map {w w' : World} {D D' : Nat → Prop} (hR : ∀ sl n vs, RowAt w D 81 1 sl n vs → RowAt w' D' 81 1 sl n vs) : ∀ {es : List Ex} {vs : List Value}, RepEs w D es vs → RepEs w' D' es vs
  | [], vs, h => by rw [RepEs] at h ⊢; exact h
  | e :: es, vs, h => by
    rw [RepEs] at h ⊢
    obtain ⟨v, r, h1, h2, h3⟩ := h
    exact ⟨v, r, h1, RepE.map hR h2, RepEs.map hR h3⟩
end
theorem RepEs.keep {w w' : World} {D : Nat → Prop} {es : List Ex} {vs : List Value} (h : RepEs w D es vs) (hS : Same D w w') : RepEs w' (fun k => D k ∧ k < w.heap.size) es vs := h.map fun _ _ _ hr => hr.keep hS
theorem RepE.keep {w w' : World} {D : Nat → Prop} {e : Ex} {v : Value} (h : RepE w D e v) (hS : Same D w w') : RepE w' (fun k => D k ∧ k < w.heap.size) e v := h.map fun _ _ _ hr => hr.keep hS
theorem RepEs.weaken {w : World} {D D' : Nat → Prop} {es : List Ex} {vs : List Value} (h : RepEs w D es vs) (hD : ∀ k, D k → D' k) : RepEs w D' es vs := h.map fun _ _ _ hr => hr.weaken hD
theorem RepE.weaken {w : World} {D D' : Nat → Prop} {e : Ex} {v : Value} (h : RepE w D e v) (hD : ∀ k, D k → D' k) : RepE w D' e v := h.map fun _ _ _ hr => hr.weaken hD
theorem RepEs.length {w : World} {D : Nat → Prop} : ∀ {es : List Ex} {vs : List Value}, RepEs w D es vs → vs.length = es.length
  | [], vs, h => by rw [RepEs] at h; rw [h]; rfl
  | e :: es, vs, h => by
    rw [RepEs] at h
    obtain ⟨v, r, rfl, _, h3⟩ := h
    simp [RepEs.length h3]
theorem RepEs.snoc {w : World} {D : Nat → Prop} {e : Ex} {v : Value} (he : RepE w D e v) : ∀ {es : List Ex} {vs : List Value}, RepEs w D es vs → RepEs w D (es ++ [e]) (vs ++ [v])
  | [], vs, h => by
    rw [RepEs] at h
    subst h
    rw [List.nil_append, List.nil_append, RepEs]
    exact ⟨v, [], rfl, he, by rw [RepEs]⟩
  | x :: es, vs, h => by
    rw [RepEs] at h
    obtain ⟨y, r, rfl, h2, h3⟩ := h
    rw [List.cons_append, List.cons_append, RepEs]
    exact ⟨y, r ++ [v], rfl, h2, RepEs.snoc he h3⟩
/-- An expr's value is one cell, an interface value. -/
theorem RepE.iface {w : World} {D : Nat → Prop} : ∀ {e : Ex} {v : Value}, RepE w D e v → ∃ t x, v = .iface t x
  | .num b, v, h => by rw [RepE] at h; obtain ⟨_, h⟩ := h; exact ⟨_, _, h⟩
  | .txt b, v, h => by rw [RepE] at h; obtain ⟨_, _, _, h⟩ := h; exact ⟨_, _, h⟩
  | .var n a, v, h => by rw [RepE] at h; obtain ⟨_, _, h⟩ := h; exact ⟨_, _, h⟩
  | .form wd n a ks, v, h => by
    rw [RepE] at h
    obtain ⟨sp, vs, _, h2⟩ := h
    rcases h2 with ⟨_, _, h, _⟩ | ⟨_, _, _, _, _, h, _⟩ | ⟨_, _, _, _, _, _, h⟩ | ⟨_, _, _, _, _, _, _, h⟩ | ⟨_, _, _, _, _, h⟩ | ⟨_, _, _, _, _, h⟩ | ⟨_, _, _, h⟩ | ⟨_, _, _, _, _, _, h⟩
    all_goals exact ⟨_, _, h⟩
theorem same_pt {pb rb : Nat} {w w' : World} {D : Nat → Prop} (h : PT pb rb w w') (hD : ∀ k, D k → k ≠ pb ∧ k ≠ rb) : Same D w w' := fun k hk hlt => h.block k hlt (by rintro (g | g); exact (hD k hk).2 g; exact (hD k hk).1 g)
end Go.Proofs.YtdiefbahmcihlaaGreatDoor

/-
  build of package program: the value of a form out of those of its exprs.
-/
namespace Go.Proofs.YtdiefbahmcihlaaGreatDoor
open Go.RowKit
attribute [local go_sem ↓] Go.wp_at_zero Go.wp_at_succ

theorem drawn {w x : World} (h : Below w.heap.size w x) (n : Nat) : Below w.heap.size w (x.drewN n) := below_drewN h n

/-- What build answers: the value of the form. -/
def buildPost (w : World) (D : Nat → Prop) (sp : Nat) (wd n : List UInt8) (at_ : Nat) (vs : List Value) (e : Ending) (w' : World) : Prop :=
  ∃ v, e = .returned v ∧ FormV w' D sp wd n at_ vs v ∧ Below w.heap.size w w'

set_option maxHeartbeats 1000000 in
theorem build_list (bd nb : ByteArray) (sp at_ : Nat) (ad : Option Addr) (len cap : Nat) (vs : List Value) (w : World) (D : Nat → Prop) (h : bd.toList = [108, 105, 115, 116]) (hR : RowAt w D 81 1 (.slice ad len cap) vs.length vs) :
    Calls Tryz.prog 276 #[.string bd, .int .i64 ((sp : Nat) : Int), nameV nb at_, .slice ad len cap] w (buildPost w D sp [108, 105, 115, 116] nb.data.toList at_ vs) := by
  go_enter Tryz.func276, Tryz.ntmps276
  go_wp2
  go_ret
  exact ⟨_, rfl, Or.inl ⟨rfl, _, rfl, row_below hR (below1 w _)⟩, below1 w _⟩
set_option maxHeartbeats 1000000 in
theorem build_call (bd nb : ByteArray) (sp at_ : Nat) (ad : Option Addr) (len cap : Nat) (vs : List Value) (w : World) (D : Nat → Prop) (hnb : nb.size ≤ 2000) (h : bd.toList = [99, 97, 108, 108]) (hR : RowAt w D 81 1 (.slice ad len cap) vs.length vs) :
    Calls Tryz.prog 276 #[.string bd, .int .i64 ((sp : Nat) : Int), nameV nb at_, .slice ad len cap] w (buildPost w D sp [99, 97, 108, 108] nb.data.toList at_ vs) := by
  go_enter Tryz.func276, Tryz.ntmps276
  go_wp2
  go_ret
  exact ⟨_, rfl, Or.inr (Or.inl ⟨rfl, nb, _, rfl, hnb, rfl, row_below hR (below1 w _)⟩), below1 w _⟩
set_option maxHeartbeats 1000000 in
theorem build_map (bd nb : ByteArray) (sp at_ : Nat) (g cap : Nat) (t0 : TypeId) (x0 : Value) (w : World) (D : Nat → Prop) (hnb : nb.size ≤ 2000) (h : bd.toList = [109, 97, 112]) (_hcap : 1 ≤ cap) (_hcm : cap ≤ maxLen) (c0 : w.cell? ⟨g, 0, none⟩ = some (.iface t0 x0)) :
    Calls Tryz.prog 276 #[.string bd, .int .i64 ((sp : Nat) : Int), nameV nb at_, .slice (some ⟨g, 0, none⟩) 1 cap] w (buildPost w D sp [109, 97, 112] nb.data.toList at_ [(.iface t0 x0)]) := by
  unfold maxLen at _hcm
  have hlt := cell_lt c0
  have hne := World.new_ne w _ c0
  go_enter Tryz.func276, Tryz.ntmps276
  go_wp2
  go_quiet (fail)
  go_wp2
  go_ret
  exact ⟨_, rfl, Or.inr (Or.inr (Or.inl ⟨rfl, nb, (.iface t0 x0), rfl, hnb, rfl, rfl⟩)), drawn (below1 w _) _⟩
set_option maxHeartbeats 1000000 in
theorem build_let (bd nb : ByteArray) (sp at_ : Nat) (g cap : Nat) (t0 t1 : TypeId) (x0 x1 : Value) (w : World) (D : Nat → Prop) (hnb : nb.size ≤ 2000) (h : bd.toList = [108, 101, 116]) (_hcap : 2 ≤ cap) (_hcm : cap ≤ maxLen) (c0 : w.cell? ⟨g, 0, none⟩ = some (.iface t0 x0)) (c1 : w.cell? ⟨g, 1, none⟩ = some (.iface t1 x1)) :
    Calls Tryz.prog 276 #[.string bd, .int .i64 ((sp : Nat) : Int), nameV nb at_, .slice (some ⟨g, 0, none⟩) 2 cap] w (buildPost w D sp [108, 101, 116] nb.data.toList at_ [(.iface t0 x0), (.iface t1 x1)]) := by
  unfold maxLen at _hcm
  have hlt := cell_lt c0
  have hne := World.new_ne w _ c0
  go_enter Tryz.func276, Tryz.ntmps276
  go_wp2
  go_quiet (fail)
  go_wp2
  go_ret
  exact ⟨_, rfl, Or.inr (Or.inr (Or.inr (Or.inl ⟨rfl, nb, (.iface t0 x0), (.iface t1 x1), rfl, hnb, rfl, rfl⟩))), drawn (below1 w _) _⟩
set_option maxHeartbeats 1000000 in
theorem build_if (bd nb : ByteArray) (sp at_ : Nat) (g cap : Nat) (t0 t1 t2 : TypeId) (x0 x1 x2 : Value) (w : World) (D : Nat → Prop) (h : bd.toList = [105, 102]) (_hcap : 3 ≤ cap) (_hcm : cap ≤ maxLen) (c0 : w.cell? ⟨g, 0, none⟩ = some (.iface t0 x0)) (c1 : w.cell? ⟨g, 1, none⟩ = some (.iface t1 x1)) (c2 : w.cell? ⟨g, 2, none⟩ = some (.iface t2 x2)) :
    Calls Tryz.prog 276 #[.string bd, .int .i64 ((sp : Nat) : Int), nameV nb at_, .slice (some ⟨g, 0, none⟩) 3 cap] w (buildPost w D sp [105, 102] nb.data.toList at_ [(.iface t0 x0), (.iface t1 x1), (.iface t2 x2)]) := by
  unfold maxLen at _hcm
  have hlt := cell_lt c0
  have hne := World.new_ne w _ c0
  go_enter Tryz.func276, Tryz.ntmps276
  go_wp2
  go_quiet (fail)
  go_wp2
  go_ret
  exact ⟨_, rfl, Or.inr (Or.inr (Or.inr (Or.inr (Or.inl ⟨rfl, (.iface t0 x0), (.iface t1 x1), (.iface t2 x2), rfl, rfl⟩)))), drawn (below1 w _) _⟩
set_option maxHeartbeats 1000000 in
theorem build_set (bd nb : ByteArray) (sp at_ : Nat) (g cap : Nat) (t0 t1 t2 : TypeId) (x0 x1 x2 : Value) (w : World) (D : Nat → Prop) (h : bd.toList = [115, 101, 116]) (_hcap : 3 ≤ cap) (_hcm : cap ≤ maxLen) (c0 : w.cell? ⟨g, 0, none⟩ = some (.iface t0 x0)) (c1 : w.cell? ⟨g, 1, none⟩ = some (.iface t1 x1)) (c2 : w.cell? ⟨g, 2, none⟩ = some (.iface t2 x2)) :
    Calls Tryz.prog 276 #[.string bd, .int .i64 ((sp : Nat) : Int), nameV nb at_, .slice (some ⟨g, 0, none⟩) 3 cap] w (buildPost w D sp [115, 101, 116] nb.data.toList at_ [(.iface t0 x0), (.iface t1 x1), (.iface t2 x2)]) := by
  unfold maxLen at _hcm
  have hlt := cell_lt c0
  have hne := World.new_ne w _ c0
  go_enter Tryz.func276, Tryz.ntmps276
  go_wp2
  go_quiet (fail)
  go_wp2
  go_ret
  exact ⟨_, rfl, Or.inr (Or.inr (Or.inr (Or.inr (Or.inr (Or.inl ⟨rfl, (.iface t0 x0), (.iface t1 x1), (.iface t2 x2), rfl, rfl⟩))))), drawn (below1 w _) _⟩
set_option maxHeartbeats 1000000 in
theorem build_len (bd nb : ByteArray) (sp at_ : Nat) (g cap : Nat) (t0 : TypeId) (x0 : Value) (w : World) (D : Nat → Prop) (h : bd.toList = [108, 101, 110]) (_hcap : 1 ≤ cap) (_hcm : cap ≤ maxLen) (c0 : w.cell? ⟨g, 0, none⟩ = some (.iface t0 x0)) :
    Calls Tryz.prog 276 #[.string bd, .int .i64 ((sp : Nat) : Int), nameV nb at_, .slice (some ⟨g, 0, none⟩) 1 cap] w (buildPost w D sp [108, 101, 110] nb.data.toList at_ [(.iface t0 x0)]) := by
  unfold maxLen at _hcm
  have hlt := cell_lt c0
  have hne := World.new_ne w _ c0
  go_enter Tryz.func276, Tryz.ntmps276
  go_wp2
  go_ret
  exact ⟨_, rfl, Or.inr (Or.inr (Or.inr (Or.inr (Or.inr (Or.inr (Or.inl ⟨rfl, (.iface t0 x0), rfl, rfl⟩)))))), below1 w _⟩
set_option maxHeartbeats 1000000 in
theorem build_add (bd nb : ByteArray) (sp at_ : Nat) (g cap : Nat) (t0 t1 : TypeId) (x0 x1 : Value) (w : World) (D : Nat → Prop) (h : bd.toList = [97, 100, 100]) (_hcap : 2 ≤ cap) (_hcm : cap ≤ maxLen) (c0 : w.cell? ⟨g, 0, none⟩ = some (.iface t0 x0)) (c1 : w.cell? ⟨g, 1, none⟩ = some (.iface t1 x1)) :
    Calls Tryz.prog 276 #[.string bd, .int .i64 ((sp : Nat) : Int), nameV nb at_, .slice (some ⟨g, 0, none⟩) 2 cap] w (buildPost w D sp [97, 100, 100] nb.data.toList at_ [(.iface t0 x0), (.iface t1 x1)]) := by
  unfold maxLen at _hcm
  have hlt := cell_lt c0
  have hne := World.new_ne w _ c0
  go_enter Tryz.func276, Tryz.ntmps276
  go_wp2
  go_quiet (fail)
  go_wp2
  go_ret
  exact ⟨_, rfl, Or.inr (Or.inr (Or.inr (Or.inr (Or.inr (Or.inr (Or.inr ⟨rfl, bd, (.iface t0 x0), (.iface t1 x1), by rw [← ByteArray.toList_eq]; exact h, rfl, rfl⟩)))))), drawn (below1 w _) _⟩
set_option maxHeartbeats 1000000 in
theorem build_sub (bd nb : ByteArray) (sp at_ : Nat) (g cap : Nat) (t0 t1 : TypeId) (x0 x1 : Value) (w : World) (D : Nat → Prop) (h : bd.toList = [115, 117, 98]) (_hcap : 2 ≤ cap) (_hcm : cap ≤ maxLen) (c0 : w.cell? ⟨g, 0, none⟩ = some (.iface t0 x0)) (c1 : w.cell? ⟨g, 1, none⟩ = some (.iface t1 x1)) :
    Calls Tryz.prog 276 #[.string bd, .int .i64 ((sp : Nat) : Int), nameV nb at_, .slice (some ⟨g, 0, none⟩) 2 cap] w (buildPost w D sp [115, 117, 98] nb.data.toList at_ [(.iface t0 x0), (.iface t1 x1)]) := by
  unfold maxLen at _hcm
  have hlt := cell_lt c0
  have hne := World.new_ne w _ c0
  go_enter Tryz.func276, Tryz.ntmps276
  go_wp2
  go_quiet (fail)
  go_wp2
  go_ret
  exact ⟨_, rfl, Or.inr (Or.inr (Or.inr (Or.inr (Or.inr (Or.inr (Or.inr ⟨rfl, bd, (.iface t0 x0), (.iface t1 x1), by rw [← ByteArray.toList_eq]; exact h, rfl, rfl⟩)))))), drawn (below1 w _) _⟩
set_option maxHeartbeats 1000000 in
theorem build_mul (bd nb : ByteArray) (sp at_ : Nat) (g cap : Nat) (t0 t1 : TypeId) (x0 x1 : Value) (w : World) (D : Nat → Prop) (h : bd.toList = [109, 117, 108]) (_hcap : 2 ≤ cap) (_hcm : cap ≤ maxLen) (c0 : w.cell? ⟨g, 0, none⟩ = some (.iface t0 x0)) (c1 : w.cell? ⟨g, 1, none⟩ = some (.iface t1 x1)) :
    Calls Tryz.prog 276 #[.string bd, .int .i64 ((sp : Nat) : Int), nameV nb at_, .slice (some ⟨g, 0, none⟩) 2 cap] w (buildPost w D sp [109, 117, 108] nb.data.toList at_ [(.iface t0 x0), (.iface t1 x1)]) := by
  unfold maxLen at _hcm
  have hlt := cell_lt c0
  have hne := World.new_ne w _ c0
  go_enter Tryz.func276, Tryz.ntmps276
  go_wp2
  go_quiet (fail)
  go_wp2
  go_ret
  exact ⟨_, rfl, Or.inr (Or.inr (Or.inr (Or.inr (Or.inr (Or.inr (Or.inr ⟨rfl, bd, (.iface t0 x0), (.iface t1 x1), by rw [← ByteArray.toList_eq]; exact h, rfl, rfl⟩)))))), drawn (below1 w _) _⟩
set_option maxHeartbeats 1000000 in
theorem build_eq (bd nb : ByteArray) (sp at_ : Nat) (g cap : Nat) (t0 t1 : TypeId) (x0 x1 : Value) (w : World) (D : Nat → Prop) (h : bd.toList = [101, 113]) (_hcap : 2 ≤ cap) (_hcm : cap ≤ maxLen) (c0 : w.cell? ⟨g, 0, none⟩ = some (.iface t0 x0)) (c1 : w.cell? ⟨g, 1, none⟩ = some (.iface t1 x1)) :
    Calls Tryz.prog 276 #[.string bd, .int .i64 ((sp : Nat) : Int), nameV nb at_, .slice (some ⟨g, 0, none⟩) 2 cap] w (buildPost w D sp [101, 113] nb.data.toList at_ [(.iface t0 x0), (.iface t1 x1)]) := by
  unfold maxLen at _hcm
  have hlt := cell_lt c0
  have hne := World.new_ne w _ c0
  go_enter Tryz.func276, Tryz.ntmps276
  go_wp2
  go_quiet (fail)
  go_wp2
  go_ret
  exact ⟨_, rfl, Or.inr (Or.inr (Or.inr (Or.inr (Or.inr (Or.inr (Or.inr ⟨rfl, bd, (.iface t0 x0), (.iface t1 x1), by rw [← ByteArray.toList_eq]; exact h, rfl, rfl⟩)))))), drawn (below1 w _) _⟩
set_option maxHeartbeats 1000000 in
theorem build_less (bd nb : ByteArray) (sp at_ : Nat) (g cap : Nat) (t0 t1 : TypeId) (x0 x1 : Value) (w : World) (D : Nat → Prop) (h : bd.toList = [108, 101, 115, 115]) (_hcap : 2 ≤ cap) (_hcm : cap ≤ maxLen) (c0 : w.cell? ⟨g, 0, none⟩ = some (.iface t0 x0)) (c1 : w.cell? ⟨g, 1, none⟩ = some (.iface t1 x1)) :
    Calls Tryz.prog 276 #[.string bd, .int .i64 ((sp : Nat) : Int), nameV nb at_, .slice (some ⟨g, 0, none⟩) 2 cap] w (buildPost w D sp [108, 101, 115, 115] nb.data.toList at_ [(.iface t0 x0), (.iface t1 x1)]) := by
  unfold maxLen at _hcm
  have hlt := cell_lt c0
  have hne := World.new_ne w _ c0
  go_enter Tryz.func276, Tryz.ntmps276
  go_wp2
  go_quiet (fail)
  go_wp2
  go_ret
  exact ⟨_, rfl, Or.inr (Or.inr (Or.inr (Or.inr (Or.inr (Or.inr (Or.inr ⟨rfl, bd, (.iface t0 x0), (.iface t1 x1), by rw [← ByteArray.toList_eq]; exact h, rfl, rfl⟩)))))), drawn (below1 w _) _⟩
set_option maxHeartbeats 1000000 in
theorem build_at (bd nb : ByteArray) (sp at_ : Nat) (g cap : Nat) (t0 t1 : TypeId) (x0 x1 : Value) (w : World) (D : Nat → Prop) (h : bd.toList = [97, 116]) (_hcap : 2 ≤ cap) (_hcm : cap ≤ maxLen) (c0 : w.cell? ⟨g, 0, none⟩ = some (.iface t0 x0)) (c1 : w.cell? ⟨g, 1, none⟩ = some (.iface t1 x1)) :
    Calls Tryz.prog 276 #[.string bd, .int .i64 ((sp : Nat) : Int), nameV nb at_, .slice (some ⟨g, 0, none⟩) 2 cap] w (buildPost w D sp [97, 116] nb.data.toList at_ [(.iface t0 x0), (.iface t1 x1)]) := by
  unfold maxLen at _hcm
  have hlt := cell_lt c0
  have hne := World.new_ne w _ c0
  go_enter Tryz.func276, Tryz.ntmps276
  go_wp2
  go_quiet (fail)
  go_wp2
  go_ret
  exact ⟨_, rfl, Or.inr (Or.inr (Or.inr (Or.inr (Or.inr (Or.inr (Or.inr ⟨rfl, bd, (.iface t0 x0), (.iface t1 x1), by rw [← ByteArray.toList_eq]; exact h, rfl, rfl⟩)))))), drawn (below1 w _) _⟩
set_option maxHeartbeats 1000000 in
theorem build_join (bd nb : ByteArray) (sp at_ : Nat) (g cap : Nat) (t0 t1 : TypeId) (x0 x1 : Value) (w : World) (D : Nat → Prop) (h : bd.toList = [106, 111, 105, 110]) (_hcap : 2 ≤ cap) (_hcm : cap ≤ maxLen) (c0 : w.cell? ⟨g, 0, none⟩ = some (.iface t0 x0)) (c1 : w.cell? ⟨g, 1, none⟩ = some (.iface t1 x1)) :
    Calls Tryz.prog 276 #[.string bd, .int .i64 ((sp : Nat) : Int), nameV nb at_, .slice (some ⟨g, 0, none⟩) 2 cap] w (buildPost w D sp [106, 111, 105, 110] nb.data.toList at_ [(.iface t0 x0), (.iface t1 x1)]) := by
  unfold maxLen at _hcm
  have hlt := cell_lt c0
  have hne := World.new_ne w _ c0
  go_enter Tryz.func276, Tryz.ntmps276
  go_wp2
  go_quiet (fail)
  go_wp2
  go_ret
  exact ⟨_, rfl, Or.inr (Or.inr (Or.inr (Or.inr (Or.inr (Or.inr (Or.inr ⟨rfl, bd, (.iface t0 x0), (.iface t1 x1), by rw [← ByteArray.toList_eq]; exact h, rfl, rfl⟩)))))), drawn (below1 w _) _⟩
end Go.Proofs.YtdiefbahmcihlaaGreatDoor

/-
  build at every form.
-/
namespace Go.Proofs.YtdiefbahmcihlaaGreatDoor
open Go.RowKit

/-- All are interface values. -/
def Ifs (vs : List Value) : Prop := ∀ v ∈ vs, ∃ t x, v = Value.iface t x
theorem RepEs.ifs {w : World} {D : Nat → Prop} : ∀ {es : List Ex} {vs : List Value}, RepEs w D es vs → Ifs vs
  | [], vs, h => by rw [RepEs] at h; subst h; intro v hv; cases hv
  | e :: es, vs, h => by
    rw [RepEs] at h
    obtain ⟨v, r, rfl, h2, h3⟩ := h
    intro x hx
    rcases List.mem_cons.1 hx with rfl | hx
    · exact h2.iface
    · exact RepEs.ifs h3 x hx
theorem len_one {vs : List Value} (h : vs.length = 1) : ∃ a, vs = [a] := by
  match vs, h with
  | [a], _ => exact ⟨a, rfl⟩
theorem len_two {vs : List Value} (h : vs.length = 2) : ∃ a b, vs = [a, b] := by
  match vs, h with
  | [a, b], _ => exact ⟨a, b, rfl⟩
theorem len_three {vs : List Value} (h : vs.length = 3) : ∃ a b c, vs = [a, b, c] := by
  match vs, h with
  | [a, b, c], _ => exact ⟨a, b, c, rfl⟩
theorem shape_m {l : List UInt8} {nm b : Bool} {m n : Int} (h1 : shapeL l = some (nm, m)) (h2 : shapeL l = some (b, n)) : m = n := by
  rw [h1] at h2
  simp only [Option.some.injEq, Prod.mk.injEq] at h2
  exact h2.2
theorem row_slice {w : World} {D : Nat → Prop} {e : TypeId} {size : Nat} {v : Value} {n : Nat} {xs : List Value} (h : RowAt w D e size v n xs) : ∃ ad len cap, v = .slice ad len cap := by
  rcases h.2 with ⟨h, _⟩ | ⟨g, cap, _, h, _⟩
  · exact ⟨_, _, _, h⟩
  · exact ⟨_, _, _, h⟩

theorem build_any (bd nb : ByteArray) (sp at_ : Nat) (pv : Value) (vs : List Value) (w : World) (D : Nat → Prop) (hnb : nb.size ≤ 2000) {nm : Bool} {m : Int} (hsh : shapeL bd.data.toList = some (nm, m)) (hR : RowAt w D 81 1 pv vs.length vs) (hI : Ifs vs) (hlen : 0 ≤ m → (vs.length : Int) = m) :
    Calls Tryz.prog 276 #[.string bd, .int .i64 ((sp : Nat) : Int), nameV nb at_, pv] w (buildPost w D sp bd.data.toList nb.data.toList at_ vs) := by
  rcases shape_cases bd.data.toList with h | h | h | h | h | h | h | h | h | h | h | h | h | h | ⟨h, _⟩
  · have h' : bd.toList = [108, 105, 115, 116] := by rw [ByteArray.toList_eq]; exact h
    rw [h]
    obtain ⟨ad, len, cap, rfl⟩ := row_slice hR
    exact build_list bd nb sp at_ ad len cap vs w D h' hR
  · have h' : bd.toList = [99, 97, 108, 108] := by rw [ByteArray.toList_eq]; exact h
    rw [h]
    obtain ⟨ad, len, cap, rfl⟩ := row_slice hR
    exact build_call bd nb sp at_ ad len cap vs w D hnb h' hR
  · have h' : bd.toList = [109, 97, 112] := by rw [ByteArray.toList_eq]; exact h
    rw [h]
    rw [h] at hsh
    have hm : m = 1 := shape_m hsh (show shapeL [109, 97, 112] = some (true, 1) by decide)
    obtain ⟨a, rfl⟩ := len_one (vs := vs) (by have := hlen (by omega); omega)
    obtain ⟨t0, x0, rfl⟩ := hI a (by simp)
    obtain ⟨g, cap, rfl, hg, hc1, hc2, hcell⟩ := hR.cell (by simp)
    exact build_map bd nb sp at_ g cap t0 x0 w D hnb h' hc1 hc2 (by rw [hcell 0 (by simp)]; rfl)
  · have h' : bd.toList = [108, 101, 116] := by rw [ByteArray.toList_eq]; exact h
    rw [h]
    rw [h] at hsh
    have hm : m = 2 := shape_m hsh (show shapeL [108, 101, 116] = some (true, 2) by decide)
    obtain ⟨a, b, rfl⟩ := len_two (vs := vs) (by have := hlen (by omega); omega)
    obtain ⟨t0, x0, rfl⟩ := hI a (by simp)
    obtain ⟨t1, x1, rfl⟩ := hI b (by simp)
    obtain ⟨g, cap, rfl, hg, hc1, hc2, hcell⟩ := hR.cell (by simp)
    exact build_let bd nb sp at_ g cap t0 t1 x0 x1 w D hnb h' hc1 hc2 (by rw [hcell 0 (by simp)]; rfl) (by rw [hcell 1 (by simp)]; rfl)
  · have h' : bd.toList = [105, 102] := by rw [ByteArray.toList_eq]; exact h
    rw [h]
    rw [h] at hsh
    have hm : m = 3 := shape_m hsh (show shapeL [105, 102] = some (false, 3) by decide)
    obtain ⟨a, b, c, rfl⟩ := len_three (vs := vs) (by have := hlen (by omega); omega)
    obtain ⟨t0, x0, rfl⟩ := hI a (by simp)
    obtain ⟨t1, x1, rfl⟩ := hI b (by simp)
    obtain ⟨t2, x2, rfl⟩ := hI c (by simp)
    obtain ⟨g, cap, rfl, hg, hc1, hc2, hcell⟩ := hR.cell (by simp)
    exact build_if bd nb sp at_ g cap t0 t1 t2 x0 x1 x2 w D h' hc1 hc2 (by rw [hcell 0 (by simp)]; rfl) (by rw [hcell 1 (by simp)]; rfl) (by rw [hcell 2 (by simp)]; rfl)
  · have h' : bd.toList = [115, 101, 116] := by rw [ByteArray.toList_eq]; exact h
    rw [h]
    rw [h] at hsh
    have hm : m = 3 := shape_m hsh (show shapeL [115, 101, 116] = some (false, 3) by decide)
    obtain ⟨a, b, c, rfl⟩ := len_three (vs := vs) (by have := hlen (by omega); omega)
    obtain ⟨t0, x0, rfl⟩ := hI a (by simp)
    obtain ⟨t1, x1, rfl⟩ := hI b (by simp)
    obtain ⟨t2, x2, rfl⟩ := hI c (by simp)
    obtain ⟨g, cap, rfl, hg, hc1, hc2, hcell⟩ := hR.cell (by simp)
    exact build_set bd nb sp at_ g cap t0 t1 t2 x0 x1 x2 w D h' hc1 hc2 (by rw [hcell 0 (by simp)]; rfl) (by rw [hcell 1 (by simp)]; rfl) (by rw [hcell 2 (by simp)]; rfl)
  · have h' : bd.toList = [108, 101, 110] := by rw [ByteArray.toList_eq]; exact h
    rw [h]
    rw [h] at hsh
    have hm : m = 1 := shape_m hsh (show shapeL [108, 101, 110] = some (false, 1) by decide)
    obtain ⟨a, rfl⟩ := len_one (vs := vs) (by have := hlen (by omega); omega)
    obtain ⟨t0, x0, rfl⟩ := hI a (by simp)
    obtain ⟨g, cap, rfl, hg, hc1, hc2, hcell⟩ := hR.cell (by simp)
    exact build_len bd nb sp at_ g cap t0 x0 w D h' hc1 hc2 (by rw [hcell 0 (by simp)]; rfl)
  · have h' : bd.toList = [97, 100, 100] := by rw [ByteArray.toList_eq]; exact h
    rw [h]
    rw [h] at hsh
    have hm : m = 2 := shape_m hsh (show shapeL [97, 100, 100] = some (false, 2) by decide)
    obtain ⟨a, b, rfl⟩ := len_two (vs := vs) (by have := hlen (by omega); omega)
    obtain ⟨t0, x0, rfl⟩ := hI a (by simp)
    obtain ⟨t1, x1, rfl⟩ := hI b (by simp)
    obtain ⟨g, cap, rfl, hg, hc1, hc2, hcell⟩ := hR.cell (by simp)
    exact build_add bd nb sp at_ g cap t0 t1 x0 x1 w D h' hc1 hc2 (by rw [hcell 0 (by simp)]; rfl) (by rw [hcell 1 (by simp)]; rfl)
  · have h' : bd.toList = [115, 117, 98] := by rw [ByteArray.toList_eq]; exact h
    rw [h]
    rw [h] at hsh
    have hm : m = 2 := shape_m hsh (show shapeL [115, 117, 98] = some (false, 2) by decide)
    obtain ⟨a, b, rfl⟩ := len_two (vs := vs) (by have := hlen (by omega); omega)
    obtain ⟨t0, x0, rfl⟩ := hI a (by simp)
    obtain ⟨t1, x1, rfl⟩ := hI b (by simp)
    obtain ⟨g, cap, rfl, hg, hc1, hc2, hcell⟩ := hR.cell (by simp)
    exact build_sub bd nb sp at_ g cap t0 t1 x0 x1 w D h' hc1 hc2 (by rw [hcell 0 (by simp)]; rfl) (by rw [hcell 1 (by simp)]; rfl)
  · have h' : bd.toList = [109, 117, 108] := by rw [ByteArray.toList_eq]; exact h
    rw [h]
    rw [h] at hsh
    have hm : m = 2 := shape_m hsh (show shapeL [109, 117, 108] = some (false, 2) by decide)
    obtain ⟨a, b, rfl⟩ := len_two (vs := vs) (by have := hlen (by omega); omega)
    obtain ⟨t0, x0, rfl⟩ := hI a (by simp)
    obtain ⟨t1, x1, rfl⟩ := hI b (by simp)
    obtain ⟨g, cap, rfl, hg, hc1, hc2, hcell⟩ := hR.cell (by simp)
    exact build_mul bd nb sp at_ g cap t0 t1 x0 x1 w D h' hc1 hc2 (by rw [hcell 0 (by simp)]; rfl) (by rw [hcell 1 (by simp)]; rfl)
  · have h' : bd.toList = [101, 113] := by rw [ByteArray.toList_eq]; exact h
    rw [h]
    rw [h] at hsh
    have hm : m = 2 := shape_m hsh (show shapeL [101, 113] = some (false, 2) by decide)
    obtain ⟨a, b, rfl⟩ := len_two (vs := vs) (by have := hlen (by omega); omega)
    obtain ⟨t0, x0, rfl⟩ := hI a (by simp)
    obtain ⟨t1, x1, rfl⟩ := hI b (by simp)
    obtain ⟨g, cap, rfl, hg, hc1, hc2, hcell⟩ := hR.cell (by simp)
    exact build_eq bd nb sp at_ g cap t0 t1 x0 x1 w D h' hc1 hc2 (by rw [hcell 0 (by simp)]; rfl) (by rw [hcell 1 (by simp)]; rfl)
  · have h' : bd.toList = [108, 101, 115, 115] := by rw [ByteArray.toList_eq]; exact h
    rw [h]
    rw [h] at hsh
    have hm : m = 2 := shape_m hsh (show shapeL [108, 101, 115, 115] = some (false, 2) by decide)
    obtain ⟨a, b, rfl⟩ := len_two (vs := vs) (by have := hlen (by omega); omega)
    obtain ⟨t0, x0, rfl⟩ := hI a (by simp)
    obtain ⟨t1, x1, rfl⟩ := hI b (by simp)
    obtain ⟨g, cap, rfl, hg, hc1, hc2, hcell⟩ := hR.cell (by simp)
    exact build_less bd nb sp at_ g cap t0 t1 x0 x1 w D h' hc1 hc2 (by rw [hcell 0 (by simp)]; rfl) (by rw [hcell 1 (by simp)]; rfl)
  · have h' : bd.toList = [97, 116] := by rw [ByteArray.toList_eq]; exact h
    rw [h]
    rw [h] at hsh
    have hm : m = 2 := shape_m hsh (show shapeL [97, 116] = some (false, 2) by decide)
    obtain ⟨a, b, rfl⟩ := len_two (vs := vs) (by have := hlen (by omega); omega)
    obtain ⟨t0, x0, rfl⟩ := hI a (by simp)
    obtain ⟨t1, x1, rfl⟩ := hI b (by simp)
    obtain ⟨g, cap, rfl, hg, hc1, hc2, hcell⟩ := hR.cell (by simp)
    exact build_at bd nb sp at_ g cap t0 t1 x0 x1 w D h' hc1 hc2 (by rw [hcell 0 (by simp)]; rfl) (by rw [hcell 1 (by simp)]; rfl)
  · have h' : bd.toList = [106, 111, 105, 110] := by rw [ByteArray.toList_eq]; exact h
    rw [h]
    rw [h] at hsh
    have hm : m = 2 := shape_m hsh (show shapeL [106, 111, 105, 110] = some (false, 2) by decide)
    obtain ⟨a, b, rfl⟩ := len_two (vs := vs) (by have := hlen (by omega); omega)
    obtain ⟨t0, x0, rfl⟩ := hI a (by simp)
    obtain ⟨t1, x1, rfl⟩ := hI b (by simp)
    obtain ⟨g, cap, rfl, hg, hc1, hc2, hcell⟩ := hR.cell (by simp)
    exact build_join bd nb sp at_ g cap t0 t1 x0 x1 w D h' hc1 hc2 (by rw [hcell 0 (by simp)]; rfl) (by rw [hcell 1 (by simp)]; rfl)
  · rw [h] at hsh; cases hsh
end Go.Proofs.YtdiefbahmcihlaaGreatDoor
