/-
  The reference: the reader in memory; forms, now, wrong, over, name.
-/
import Derived.Test.YtdiefbahmcihlaaGreatDoorRefB
import Derived.Deep.RegionHeld3
namespace Go.Proofs.YtdiefbahmcihlaaGreatDoor
open Go.RowKit
attribute [local go_sem ↓] Go.wp_at_zero Go.wp_at_succ

/-- forms' answer. -/
def formsV : Option (Bool × Int) → Value
  | some (b, n) => .tuple #[.int .i64 n, .bool b, .bool true]
  | none => .tuple #[.int .i64 0, .bool false, .bool false]
set_option maxHeartbeats 2000000 in
theorem forms_any (s : ByteArray) (w : World) :
    Calls Tryz.prog 146 #[.string s] w fun e w' => e = .returned (formsV (shapeL s.data.toList)) ∧ w' = w := by
  rw [← ByteArray.toList_eq]
  rcases shape_cases s.toList with h | h | h | h | h | h | h | h | h | h | h | h | h | h | ⟨h, g0, g1, g2, g3, g4, g5, g6, g7, g8, g9, g10, g11, g12, g13⟩
  all_goals
    go_enter Tryz.func146, Tryz.ntmps146
    go_wp2
    go_ret3
    exact ⟨by rw [h]; rfl, rfl⟩

/-- A token of the reference. -/
abbrev rtokV (t : Tok × ByteArray) : Value := .agg #[.int .u8 (tcode t.1.k), .string t.2, .int .i64 ((t.1.at_ : Nat) : Int)]
/-- The reader in memory: block rb; its tokens in block tb; k the token at hand, d brackets open, e the error (0: none), a its place. -/
structure Rz (w : World) (rb tb cap : Nat) (l : List (Tok × ByteArray)) (fv pv : Value) (k d e a : Nat) : Prop where
  blk : w.heap[rb]? = some (.cells #[.slice (some ⟨tb, 0, none⟩) l.length cap, .int .i64 ((k : Nat) : Int), .int .i64 ((d : Nat) : Int), .int .i64 ((e : Nat) : Int), .int .i64 ((a : Nat) : Int), fv, pv] 140)
  toks : ∃ cur, w.heap[tb]? = some (.cells cur 142) ∧ cur.toList.take (l.length * 3) = tokCells l
  hk : k < l.length
  hc : l.length ≤ cap
  hm : cap ≤ maxLen
  hl : l.length ≤ 3000
  hd : d ≤ 16
  ne : tb ≠ rb

theorem tokCells_at : ∀ (l : List (Tok × ByteArray)) (j : Nat) (hj : j < l.length), (tokCells l)[j * 3]? = some (.int .u8 (tcode l[j].1.k)) ∧ (tokCells l)[j * 3 + 1]? = some (.string l[j].2) ∧ (tokCells l)[j * 3 + 2]? = some (.int .i64 ((l[j].1.at_ : Nat) : Int))
  | [], j, hj => by simp at hj
  | x :: r, 0, _ => ⟨rfl, rfl, rfl⟩
  | x :: r, j + 1, hj => by
    have := tokCells_at r j (by simpa using hj)
    rw [show (j + 1) * 3 = j * 3 + 1 + 1 + 1 by omega]
    simpa [tokCells] using this

section
variable {w : World} {rb tb cap : Nat} {l : List (Tok × ByteArray)} {fv pv : Value} {k d e a : Nat}
theorem Rz.cells (h : Rz w rb tb cap l fv pv k d e a) : w.cell? ⟨rb, 0, none⟩ = some (.slice (some ⟨tb, 0, none⟩) l.length cap) ∧ w.cell? ⟨rb, 1, none⟩ = some (.int .i64 ((k : Nat) : Int)) ∧ w.cell? ⟨rb, 2, none⟩ = some (.int .i64 ((d : Nat) : Int)) ∧ w.cell? ⟨rb, 3, none⟩ = some (.int .i64 ((e : Nat) : Int)) ∧ w.cell? ⟨rb, 4, none⟩ = some (.int .i64 ((a : Nat) : Int)) ∧ w.cell? ⟨rb, 5, none⟩ = some fv ∧ w.cell? ⟨rb, 6, none⟩ = some pv := by
  have hb := h.blk
  refine ⟨?_, ?_, ?_, ?_, ?_, ?_, ?_⟩ <;> (unfold World.cell?; rw [hb]; rfl)
theorem Rz.free (h : Rz w rb tb cap l fv pv k d e a) (j : Nat) : w.frozen? ⟨rb, j, none⟩ = false := by
  have hb := h.blk
  unfold World.frozen?; rw [hb]; simp
theorem Rz.tok (h : Rz w rb tb cap l fv pv k d e a) (j : Nat) (hj : j < l.length) : w.cell? ⟨tb, j * 3, none⟩ = some (.int .u8 (tcode l[j].1.k)) ∧ w.cell? ⟨tb, j * 3 + 1, none⟩ = some (.string l[j].2) ∧ w.cell? ⟨tb, j * 3 + 2, none⟩ = some (.int .i64 ((l[j].1.at_ : Nat) : Int)) := by
  obtain ⟨cur, h1, h2⟩ := h.toks
  obtain ⟨a1, a2, a3⟩ := tokCells_at l j hj
  have key : ∀ i, i < l.length * 3 → w.cell? ⟨tb, i, none⟩ = (tokCells l)[i]? := by
    intro i hi
    have : w.cell? ⟨tb, i, none⟩ = cur[i]? := by unfold World.cell?; rw [h1]; rfl
    rw [this, ← h2, List.getElem?_take, if_pos hi, Array.getElem?_toList]
  refine ⟨?_, ?_, ?_⟩
  · rw [key _ (by omega)]; exact a1
  · rw [key _ (by omega)]; exact a2
  · rw [key _ (by omega)]; exact a3
theorem Rz.lt (h : Rz w rb tb cap l fv pv k d e a) : rb < w.heap.size ∧ tb < w.heap.size := by
  obtain ⟨cur, h1, _⟩ := h.toks
  exact ⟨block_lt h.blk, block_lt h1⟩
/-- Over a call that turns neither block. -/
theorem Rz.keep {w' : World} (h : Rz w rb tb cap l fv pv k d e a) (h1 : w'.heap[rb]? = w.heap[rb]?) (h2 : w'.heap[tb]? = w.heap[tb]?) : Rz w' rb tb cap l fv pv k d e a :=
  { h with blk := by rw [h1]; exact h.blk, toks := by rw [h2]; exact h.toks }
theorem Rz.below {w' : World} (h : Rz w rb tb cap l fv pv k d e a) (hb : Below w.heap.size w w') : Rz w' rb tb cap l fv pv k d e a := h.keep (hb.block rb h.lt.1) (hb.block tb h.lt.2)
theorem Rz.alloc (h : Rz w rb tb cap l fv pv k d e a) (o : Obj) : Rz (w.alloc o) rb tb cap l fv pv k d e a := h.below (below1 w o)
theorem Rz.set1 (h : Rz w rb tb cap l fv pv k d e a) {k' : Nat} (hk : k' < l.length) : Rz (w.setCell ⟨rb, 1, none⟩ (.int .i64 ((k' : Nat) : Int))) rb tb cap l fv pv k' d e a :=
  { h with blk := by rw [set_block h.blk]; rfl, toks := by rw [Below.heap_setCell w ⟨rb, 1, none⟩ _ tb h.ne]; exact h.toks, hk := hk }
theorem Rz.set2 (h : Rz w rb tb cap l fv pv k d e a) {d' : Nat} (hd : d' ≤ 16) : Rz (w.setCell ⟨rb, 2, none⟩ (.int .i64 ((d' : Nat) : Int))) rb tb cap l fv pv k d' e a :=
  { h with blk := by rw [set_block h.blk]; rfl, toks := by rw [Below.heap_setCell w ⟨rb, 2, none⟩ _ tb h.ne]; exact h.toks, hd := hd }
theorem Rz.set3 (h : Rz w rb tb cap l fv pv k d e a) (e' : Nat) : Rz (w.setCell ⟨rb, 3, none⟩ (.int .i64 ((e' : Nat) : Int))) rb tb cap l fv pv k d e' a :=
  { h with blk := by rw [set_block h.blk]; rfl, toks := by rw [Below.heap_setCell w ⟨rb, 3, none⟩ _ tb h.ne]; exact h.toks }
theorem Rz.set4 (h : Rz w rb tb cap l fv pv k d e a) (a' : Nat) : Rz (w.setCell ⟨rb, 4, none⟩ (.int .i64 ((a' : Nat) : Int))) rb tb cap l fv pv k d e a' :=
  { h with blk := by rw [set_block h.blk]; rfl, toks := by rw [Below.heap_setCell w ⟨rb, 4, none⟩ _ tb h.ne]; exact h.toks }
theorem Rz.set5 (h : Rz w rb tb cap l fv pv k d e a) (fv' : Value) : Rz (w.setCell ⟨rb, 5, none⟩ fv') rb tb cap l fv' pv k d e a :=
  { h with blk := by rw [set_block h.blk]; rfl, toks := by rw [Below.heap_setCell w ⟨rb, 5, none⟩ _ tb h.ne]; exact h.toks }
theorem Rz.set6 (h : Rz w rb tb cap l fv pv k d e a) (pv' : Value) : Rz (w.setCell ⟨rb, 6, none⟩ pv') rb tb cap l fv pv' k d e a :=
  { h with blk := by rw [set_block h.blk]; rfl, toks := by rw [Below.heap_setCell w ⟨rb, 6, none⟩ _ tb h.ne]; exact h.toks }

/-- The result's variable, new. -/
theorem box3 (w : World) (x y z : Value) (t : TypeId) : (∀ X : World, X = w.alloc (.cells #[x, y, z] t) → X.cell? ⟨w.heap.size, 0, none⟩ = some x ∧ X.cell? ⟨w.heap.size, 1, none⟩ = some y ∧ X.cell? ⟨w.heap.size, 2, none⟩ = some z ∧ X.heap.size = w.heap.size + 1 ∧ Below w.heap.size w X) := by
  rintro X rfl
  have h : (w.alloc (Obj.cells #[x, y, z] t)).heap[w.heap.size]? = some (.cells #[x, y, z] t) := heap_alloc_new _ _
  refine ⟨?_, ?_, ?_, by simp, below1 w _⟩ <;> (unfold World.cell?; rw [h]; rfl)
theorem below_set3 {w X : World} (h : Below w.heap.size w X) (x y z : Value) : Below w.heap.size w (((X.setCell ⟨w.heap.size, 0, none⟩ x).setCell ⟨w.heap.size, 1, none⟩ y).setCell ⟨w.heap.size, 2, none⟩ z) :=
  ((h.setCell (p := ⟨w.heap.size, 0, none⟩) (Nat.le_refl _) _).setCell (p := ⟨w.heap.size, 1, none⟩) (Nat.le_refl _) _).setCell (p := ⟨w.heap.size, 2, none⟩) (Nat.le_refl _) _
set_option maxHeartbeats 1000000 in
theorem now_any (h : Rz w rb tb cap l fv pv k d e a) :
    Calls Tryz.prog 60 #[.pointer (some ⟨rb, 0, none⟩)] w fun r w' => r = .returned (rtokV (l[k]'h.hk)) ∧ Below w.heap.size w w' := by
  obtain ⟨c0, c1, _⟩ := h.cells
  obtain ⟨t0, t1, t2⟩ := h.tok k h.hk
  have hk := h.hk
  have hl := h.hl
  have hne := Nat.ne_of_lt h.lt.1
  have hne2 := Nat.ne_of_lt h.lt.2
  generalize l[k]'h.hk = t at *
  clear h
  go_enter Tryz.func60, Tryz.ntmps60
  go_wp2
  go_region_held3 (fun w' => w'.cell? ⟨rb, 0, none⟩ = some (.slice (some ⟨tb, 0, none⟩) l.length cap) ∧ w'.cell? ⟨rb, 1, none⟩ = some (.int .i64 ((k : Nat) : Int)) ∧ w'.cell? ⟨tb, k * 3, none⟩ = some (.int .u8 (tcode t.1.k)) ∧ w'.cell? ⟨tb, k * 3 + 1, none⟩ = some (.string t.2) ∧ w'.cell? ⟨tb, k * 3 + 2, none⟩ = some (.int .i64 ((t.1.at_ : Nat) : Int))) (go_keep) (fail)
  all_goals go_wp2
  exact bodyPost_ret (v := rtokV t) (by simp [results, Tryz.results60, go_sem]) rfl ⟨rfl, (below1 w _).drew⟩
set_option maxHeartbeats 1000000 in
theorem wrong_set (h : Rz w rb tb cap l fv pv k d 0 a) (c p : Nat) :
    Calls Tryz.prog 145 #[.pointer (some ⟨rb, 0, none⟩), .int .i64 ((c : Nat) : Int), .int .i64 ((p : Nat) : Int)] w fun r w' => r = .returned (.tuple #[]) ∧ Touch (· = rb) w w' ∧ Rz w' rb tb cap l fv pv k d c p := by
  obtain ⟨c0, c1, c2, c3, c4, _⟩ := h.cells
  have f3 := h.free 3
  have f4 := h.free 4
  have hz := (h.set3 c).set4 p
  have ht : Touch (· = rb) w ((w.setCell ⟨rb, 3, none⟩ (.int .i64 ((c : Nat) : Int))).setCell ⟨rb, 4, none⟩ (.int .i64 ((p : Nat) : Int))) := ((Touch.refl (· = rb) w).setCell (p := ⟨rb, 3, none⟩) (Or.inl rfl) _).setCell (p := ⟨rb, 4, none⟩) (Or.inl rfl) _
  have H : Aside (Touch (· = rb) w ((w.setCell ⟨rb, 3, none⟩ (.int .i64 ((c : Nat) : Int))).setCell ⟨rb, 4, none⟩ (.int .i64 ((p : Nat) : Int))) ∧ Rz ((w.setCell ⟨rb, 3, none⟩ (.int .i64 ((c : Nat) : Int))).setCell ⟨rb, 4, none⟩ (.int .i64 ((p : Nat) : Int))) rb tb cap l fv pv k d c p) := ⟨ht, hz⟩
  clear h hz ht
  go_enter Tryz.func145, Tryz.ntmps145
  go_wp2
  exact bodyPost_end (v := .tuple #[]) (by simp [results, Tryz.results145, go_sem]) rfl ⟨rfl, H.out⟩
theorem wrong_set2 (h : Rz w rb tb cap l fv pv k d 0 a) (p : Nat) :
    Calls Tryz.prog 145 #[.pointer (some ⟨rb, 0, none⟩), .int .i64 2, .int .i64 ((p : Nat) : Int)] w fun r w' => r = .returned (.tuple #[]) ∧ Touch (· = rb) w w' ∧ Rz w' rb tb cap l fv pv k d 2 p := wrong_set h 2 p
theorem wrong_set3 (h : Rz w rb tb cap l fv pv k d 0 a) (p : Nat) :
    Calls Tryz.prog 145 #[.pointer (some ⟨rb, 0, none⟩), .int .i64 3, .int .i64 ((p : Nat) : Int)] w fun r w' => r = .returned (.tuple #[]) ∧ Touch (· = rb) w w' ∧ Rz w' rb tb cap l fv pv k d 3 p := wrong_set h 3 p
set_option maxHeartbeats 1000000 in
theorem wrong_no (h : Rz w rb tb cap l fv pv k d e a) (he : e ≠ 0) (c p : Int) :
    Calls Tryz.prog 145 #[.pointer (some ⟨rb, 0, none⟩), .int .i64 c, .int .i64 p] w fun r w' => r = .returned (.tuple #[]) ∧ w' = w := by
  obtain ⟨c0, c1, c2, c3, c4, _⟩ := h.cells
  clear h
  go_enter Tryz.func145, Tryz.ntmps145
  go_wp2
  exact bodyPost_end (v := .tuple #[]) (by simp [results, Tryz.results145, go_sem]) rfl ⟨rfl, rfl⟩
end
end Go.Proofs.YtdiefbahmcihlaaGreatDoor
