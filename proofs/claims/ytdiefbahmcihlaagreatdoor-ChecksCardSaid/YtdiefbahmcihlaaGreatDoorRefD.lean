/-
  The reference: over and name.
-/
import Derived.Test.YtdiefbahmcihlaaGreatDoorRefC
namespace Go.Proofs.YtdiefbahmcihlaaGreatDoor
open Go.RowKit
attribute [local go_sem ↓] Go.wp_at_zero Go.wp_at_succ

theorem tcode_opn (x : K) : tcode x = 40 ↔ x = .opn := by cases x <;> simp [tcode]
theorem tcode_cls (x : K) : tcode x = 41 ↔ x = .cls := by cases x <;> simp [tcode]
theorem tcode_num (x : K) : tcode x = 49 ↔ x = .num := by cases x <;> simp [tcode]
theorem tcode_txt (x : K) : tcode x = 39 ↔ x = .txt := by cases x <;> simp [tcode]
theorem tcode_word (x : K) : tcode x = 97 ↔ x = .word := by cases x <;> simp [tcode]
theorem tcode_eof (x : K) : tcode x = 0 ↔ x = .eof := by cases x <;> simp [tcode]

theorem bne_yes {x y : Int} (h : ¬ x = y) : (x != y) = true := by simpa using h
/-- A new token's variable. -/
abbrev zTok : Obj := .cells #[.int .u8 0, .string ⟨#[]⟩, .int .i64 0] 142
structure Bx (W : World) (B : Nat) : Prop where
  blk : W.heap[B]? = some zTok
theorem Bx.new (w : World) : Bx (w.alloc zTok) w.heap.size := ⟨heap_alloc_new _ _⟩
theorem Bx.below {W W' : World} {B : Nat} (h : Bx W B) (hb : Below W.heap.size W W') : Bx W' B := ⟨by rw [hb.block B (block_lt h.blk)]; exact h.blk⟩
theorem Bx.touch {W W' : World} {B rb : Nat} (h : Bx W B) (ht : Touch (· = rb) W W') (hne : B ≠ rb) : Bx W' B := ⟨by rw [ht.block B (block_lt h.blk) hne]; exact h.blk⟩
theorem Bx.facts {W : World} {B : Nat} (h : Bx W B) : W.cell? ⟨B, 0, none⟩ = some (.int .u8 0) ∧ W.cell? ⟨B, 1, none⟩ = some (.string ⟨#[]⟩) ∧ W.cell? ⟨B, 2, none⟩ = some (.int .i64 0) ∧ W.frozen? ⟨B, 0, none⟩ = false ∧ W.frozen? ⟨B, 1, none⟩ = false ∧ W.frozen? ⟨B, 2, none⟩ = false := by
  have hb := h.blk
  refine ⟨?_, ?_, ?_, ?_, ?_, ?_⟩
  all_goals first
    | (unfold World.cell?; rw [hb]; rfl)
    | (unfold World.frozen?; rw [hb]; rfl)
/-- A token's variable. -/
abbrev tokO (c : Int) (s : ByteArray) (p : Nat) : Obj := .cells #[.int .u8 c, .string s, .int .i64 ((p : Nat) : Int)] 142
structure Tx (W : World) (B : Nat) (c : Int) (s : ByteArray) (p : Nat) : Prop where
  blk : W.heap[B]? = some (tokO c s p)
theorem tokO_new (w : World) (c : Int) (s : ByteArray) (p : Nat) : Tx (w.alloc (tokO c s p)) w.heap.size c s p := ⟨heap_alloc_new _ _⟩
theorem Tx.touch {W W' : World} {B rb : Nat} {c : Int} {s : ByteArray} {p : Nat} (h : Tx W B c s p) (ht : Touch (· = rb) W W') (hne : B ≠ rb) : Tx W' B c s p := ⟨by rw [ht.block B (block_lt h.blk) hne]; exact h.blk⟩
theorem Tx.below {W W' : World} {B : Nat} {c : Int} {s : ByteArray} {p : Nat} (h : Tx W B c s p) (hb : Below W.heap.size W W') : Tx W' B c s p := ⟨by rw [hb.block B (block_lt h.blk)]; exact h.blk⟩
theorem Tx.facts {W : World} {B : Nat} {c : Int} {s : ByteArray} {p : Nat} (h : Tx W B c s p) : W.cell? ⟨B, 0, none⟩ = some (.int .u8 c) ∧ W.cell? ⟨B, 1, none⟩ = some (.string s) ∧ W.cell? ⟨B, 2, none⟩ = some (.int .i64 ((p : Nat) : Int)) := by
  have hb := h.blk
  refine ⟨?_, ?_, ?_⟩ <;> (unfold World.cell?; rw [hb]; rfl)
section
variable {w : World} {rb tb cap : Nat} {l : List (Tok × ByteArray)} {fv pv : Value} {k d e a : Nat}
theorem Rz.set_other {B : Nat} (h : Rz w rb tb cap l fv pv k d e a) (h1 : rb ≠ B) (h2 : tb ≠ B) (j : Nat) (v : Value) : Rz (w.setCell ⟨B, j, none⟩ v) rb tb cap l fv pv k d e a :=
  h.keep (Below.heap_setCell w ⟨B, j, none⟩ v rb h1) (Below.heap_setCell w ⟨B, j, none⟩ v tb h2)
/-- The result is laid into its variable. -/
theorem fin3 {X : World} {B : Nat} (hr : rb < B) (ht : tb < B) (hB : w.heap.size ≤ B) (hT : Touch (· = rb) w X) (hz : Rz X rb tb cap l fv pv k d e a) (x y z : Value) :
    Touch (· = rb) w (((X.setCell ⟨B, 0, none⟩ x).setCell ⟨B, 1, none⟩ y).setCell ⟨B, 2, none⟩ z) ∧ Rz (((X.setCell ⟨B, 0, none⟩ x).setCell ⟨B, 1, none⟩ y).setCell ⟨B, 2, none⟩ z) rb tb cap l fv pv k d e a :=
  ⟨((hT.setCell (p := ⟨B, 0, none⟩) (Or.inr hB) _).setCell (p := ⟨B, 1, none⟩) (Or.inr hB) _).setCell (p := ⟨B, 2, none⟩) (Or.inr hB) _,
   ((hz.set_other (Nat.ne_of_lt hr) (Nat.ne_of_lt ht) _ _).set_other (Nat.ne_of_lt hr) (Nat.ne_of_lt ht) _ _).set_other (Nat.ne_of_lt hr) (Nat.ne_of_lt ht) _ _⟩
theorem Rz.step (h : Rz w rb tb cap l fv pv k d 0 a) {d' : Nat} (hd : d' ≤ 16) (hk : k + 1 < l.length) : Rz ((w.setCell ⟨rb, 2, none⟩ (.int .i64 ((d' : Nat) : Int))).setCell ⟨rb, 1, none⟩ (.int .i64 ((k + 1 : Nat) : Int))) rb tb cap l fv pv (k + 1) d' 0 a ∧ Touch (· = rb) w ((w.setCell ⟨rb, 2, none⟩ (.int .i64 ((d' : Nat) : Int))).setCell ⟨rb, 1, none⟩ (.int .i64 ((k + 1 : Nat) : Int))) :=
  ⟨(h.set2 hd).set1 hk, ((Touch.refl (· = rb) w).setCell (p := ⟨rb, 2, none⟩) (Or.inl rfl) _).setCell (p := ⟨rb, 1, none⟩) (Or.inl rfl) _⟩
theorem Rz.step0 (h : Rz w rb tb cap l fv pv k d 0 a) (hk : k + 1 < l.length) : Rz (w.setCell ⟨rb, 1, none⟩ (.int .i64 ((k + 1 : Nat) : Int))) rb tb cap l fv pv (k + 1) d 0 a ∧ Touch (· = rb) w (w.setCell ⟨rb, 1, none⟩ (.int .i64 ((k + 1 : Nat) : Int))) :=
  ⟨h.set1 hk, (Touch.refl (· = rb) w).setCell (p := ⟨rb, 1, none⟩) (Or.inl rfl) _⟩
/-- 'fun'. -/
abbrev funB : ByteArray := ⟨#[102, 117, 110]⟩
set_option maxHeartbeats 1000000 in
theorem over_err1 (h : Rz w rb tb cap l fv pv k d e a) (he : e ≠ 0) (u : ByteArray) (hct : tcode (l[k]'h.hk).1.k = 40) :
    Calls Tryz.prog 100 #[.pointer (some ⟨rb, 0, none⟩), .int .u8 40, .string u] w fun r w' => r = .returned (rtokV (l[k]'h.hk)) ∧ Touch (· = rb) w w' ∧ Rz w' rb tb cap l fv pv k d e a := by
  have hlt := h.lt
  have hl := h.hl
  have hd := h.hd
  have hne1 := Nat.ne_of_lt hlt.1
  have hne2 := Nat.ne_of_lt hlt.2
  have cn := now_any (h.alloc zTok)
  have hk := h.hk
  have hcv : rtokV (l[k]'h.hk) = .agg #[.int .u8 40, .string (l[k]'h.hk).2, .int .i64 (((l[k]'h.hk).1.at_ : Nat) : Int)] := by rw [← hct]
  clear hct
  generalize (l[k]'h.hk).2 = ts at *
  generalize (l[k]'h.hk).1.at_ = p at *
  generalize rtokV (l[k]'h.hk) = tv at *
  subst hcv
  go_enter Tryz.func100, Tryz.ntmps100
  go_wp2_with (first
    | (go_at_call 60; refine cn.mono ?_; rintro r w1 ⟨rfl, hb1⟩; have z1 := ((h.alloc zTok).below hb1).alloc (tokO 40 ts p); have b1 := ((Bx.new w).below hb1).below (below1 w1 (tokO 40 ts p)); have g1 := tokO_new w1 40 ts p; obtain ⟨c0, c1, c2, c3, c4, _⟩ := z1.cells; obtain ⟨v0, v1, v2, v3, v4, v5⟩ := b1.facts; obtain ⟨q0, q1, q2⟩ := g1.facts; have f1 := z1.free 1; have f2 := z1.free 2; have z0 := hb1.size; simp at z0; have ne3 : rb ≠ w1.heap.size := (by omega); have ne4 : w.heap.size ≠ w1.heap.size := (by omega))
    | (go_at_call 145; refine (wrong_no z1 he _ _).mono ?_; rintro r w2 ⟨rfl, rfl⟩))
  all_goals refine bodyPost_ret (v := .agg #[.int .u8 40, .string ts, .int .i64 ((p : Nat) : Int)]) (by simp [results, Tryz.results100, go_sem, v0, v1, v2]) rfl ⟨rfl, ?_⟩
  all_goals exact fin3 hlt.1 hlt.2 (Nat.le_refl _) (Touch.of_below (((below1 w _).trans (hb1.mono (by simp))).alloc (by omega) _)) z1 _ _ _
set_option maxHeartbeats 1000000 in
theorem over_err2 (h : Rz w rb tb cap l fv pv k d e a) (he : e ≠ 0) (kc : Int) (u : ByteArray) (hct : tcode (l[k]'h.hk).1.k = kc) (m1 : (kc == 40) = false) :
    Calls Tryz.prog 100 #[.pointer (some ⟨rb, 0, none⟩), .int .u8 kc, .string u] w fun r w' => r = .returned (rtokV (l[k]'h.hk)) ∧ Touch (· = rb) w w' ∧ Rz w' rb tb cap l fv pv k d e a := by
  have hlt := h.lt
  have hl := h.hl
  have hd := h.hd
  have hne1 := Nat.ne_of_lt hlt.1
  have hne2 := Nat.ne_of_lt hlt.2
  have cn := now_any (h.alloc zTok)
  have hk := h.hk
  have hcv : rtokV (l[k]'h.hk) = .agg #[.int .u8 kc, .string (l[k]'h.hk).2, .int .i64 (((l[k]'h.hk).1.at_ : Nat) : Int)] := by rw [← hct]
  clear hct
  generalize (l[k]'h.hk).2 = ts at *
  generalize (l[k]'h.hk).1.at_ = p at *
  generalize rtokV (l[k]'h.hk) = tv at *
  subst hcv
  go_enter Tryz.func100, Tryz.ntmps100
  go_wp2_with (first
    | (go_at_call 60; refine cn.mono ?_; rintro r w1 ⟨rfl, hb1⟩; have z1 := ((h.alloc zTok).below hb1).alloc (tokO kc ts p); have b1 := ((Bx.new w).below hb1).below (below1 w1 (tokO kc ts p)); have g1 := tokO_new w1 kc ts p; obtain ⟨c0, c1, c2, c3, c4, _⟩ := z1.cells; obtain ⟨v0, v1, v2, v3, v4, v5⟩ := b1.facts; obtain ⟨q0, q1, q2⟩ := g1.facts; have f1 := z1.free 1; have f2 := z1.free 2; have z0 := hb1.size; simp at z0; have ne3 : rb ≠ w1.heap.size := (by omega); have ne4 : w.heap.size ≠ w1.heap.size := (by omega))
    | (go_at_call 145; refine (wrong_no z1 he _ _).mono ?_; rintro r w2 ⟨rfl, rfl⟩))
  all_goals refine bodyPost_ret (v := .agg #[.int .u8 kc, .string ts, .int .i64 ((p : Nat) : Int)]) (by simp [results, Tryz.results100, go_sem, v0, v1, v2]) rfl ⟨rfl, ?_⟩
  all_goals exact fin3 hlt.1 hlt.2 (Nat.le_refl _) (Touch.of_below (((below1 w _).trans (hb1.mono (by simp))).alloc (by omega) _)) z1 _ _ _
set_option maxHeartbeats 1000000 in
theorem over_err3 (h : Rz w rb tb cap l fv pv k d e a) (he : e ≠ 0) (kc : Int) (u : ByteArray) (hct : tcode (l[k]'h.hk).1.k = 40) (m1 : ((40 : Int) != kc) = true) (m3 : ¬ (40 : Int) = kc) :
    Calls Tryz.prog 100 #[.pointer (some ⟨rb, 0, none⟩), .int .u8 kc, .string u] w fun r w' => r = .returned (rtokV (l[k]'h.hk)) ∧ Touch (· = rb) w w' ∧ Rz w' rb tb cap l fv pv k d e a := by
  have hlt := h.lt
  have hl := h.hl
  have hd := h.hd
  have hne1 := Nat.ne_of_lt hlt.1
  have hne2 := Nat.ne_of_lt hlt.2
  have cn := now_any (h.alloc zTok)
  have hk := h.hk
  have hcv : rtokV (l[k]'h.hk) = .agg #[.int .u8 40, .string (l[k]'h.hk).2, .int .i64 (((l[k]'h.hk).1.at_ : Nat) : Int)] := by rw [← hct]
  clear hct
  generalize (l[k]'h.hk).2 = ts at *
  generalize (l[k]'h.hk).1.at_ = p at *
  generalize rtokV (l[k]'h.hk) = tv at *
  subst hcv
  go_enter Tryz.func100, Tryz.ntmps100
  go_wp2_with (first
    | (go_at_call 60; refine cn.mono ?_; rintro r w1 ⟨rfl, hb1⟩; have z1 := ((h.alloc zTok).below hb1).alloc (tokO 40 ts p); have b1 := ((Bx.new w).below hb1).below (below1 w1 (tokO 40 ts p)); have g1 := tokO_new w1 40 ts p; obtain ⟨c0, c1, c2, c3, c4, _⟩ := z1.cells; obtain ⟨v0, v1, v2, v3, v4, v5⟩ := b1.facts; obtain ⟨q0, q1, q2⟩ := g1.facts; have f1 := z1.free 1; have f2 := z1.free 2; have z0 := hb1.size; simp at z0; have ne3 : rb ≠ w1.heap.size := (by omega); have ne4 : w.heap.size ≠ w1.heap.size := (by omega))
    | (go_at_call 145; refine (wrong_no z1 he _ _).mono ?_; rintro r w2 ⟨rfl, rfl⟩))
  all_goals refine bodyPost_ret (v := .agg #[.int .u8 40, .string ts, .int .i64 ((p : Nat) : Int)]) (by simp [results, Tryz.results100, go_sem, v0, v1, v2]) rfl ⟨rfl, ?_⟩
  all_goals exact fin3 hlt.1 hlt.2 (Nat.le_refl _) (Touch.of_below (((below1 w _).trans (hb1.mono (by simp))).alloc (by omega) _)) z1 _ _ _
set_option maxHeartbeats 1000000 in
theorem over_err4 (h : Rz w rb tb cap l fv pv k d e a) (he : e ≠ 0) (kc c : Int) (u : ByteArray) (hct : tcode (l[k]'h.hk).1.k = c) (m1 : (c != kc) = true) (m3 : ¬ c = kc) (m2 : (c == 40) = false) :
    Calls Tryz.prog 100 #[.pointer (some ⟨rb, 0, none⟩), .int .u8 kc, .string u] w fun r w' => r = .returned (rtokV (l[k]'h.hk)) ∧ Touch (· = rb) w w' ∧ Rz w' rb tb cap l fv pv k d e a := by
  have hlt := h.lt
  have hl := h.hl
  have hd := h.hd
  have hne1 := Nat.ne_of_lt hlt.1
  have hne2 := Nat.ne_of_lt hlt.2
  have cn := now_any (h.alloc zTok)
  have hk := h.hk
  have hcv : rtokV (l[k]'h.hk) = .agg #[.int .u8 c, .string (l[k]'h.hk).2, .int .i64 (((l[k]'h.hk).1.at_ : Nat) : Int)] := by rw [← hct]
  clear hct
  generalize (l[k]'h.hk).2 = ts at *
  generalize (l[k]'h.hk).1.at_ = p at *
  generalize rtokV (l[k]'h.hk) = tv at *
  subst hcv
  go_enter Tryz.func100, Tryz.ntmps100
  go_wp2_with (first
    | (go_at_call 60; refine cn.mono ?_; rintro r w1 ⟨rfl, hb1⟩; have z1 := ((h.alloc zTok).below hb1).alloc (tokO c ts p); have b1 := ((Bx.new w).below hb1).below (below1 w1 (tokO c ts p)); have g1 := tokO_new w1 c ts p; obtain ⟨c0, c1, c2, c3, c4, _⟩ := z1.cells; obtain ⟨v0, v1, v2, v3, v4, v5⟩ := b1.facts; obtain ⟨q0, q1, q2⟩ := g1.facts; have f1 := z1.free 1; have f2 := z1.free 2; have z0 := hb1.size; simp at z0; have ne3 : rb ≠ w1.heap.size := (by omega); have ne4 : w.heap.size ≠ w1.heap.size := (by omega))
    | (go_at_call 145; refine (wrong_no z1 he _ _).mono ?_; rintro r w2 ⟨rfl, rfl⟩))
  all_goals refine bodyPost_ret (v := .agg #[.int .u8 c, .string ts, .int .i64 ((p : Nat) : Int)]) (by simp [results, Tryz.results100, go_sem, v0, v1, v2]) rfl ⟨rfl, ?_⟩
  all_goals exact fin3 hlt.1 hlt.2 (Nat.le_refl _) (Touch.of_below (((below1 w _).trans (hb1.mono (by simp))).alloc (by omega) _)) z1 _ _ _
/-- With an error there nothing turns. -/
theorem over_err (h : Rz w rb tb cap l fv pv k d e a) (he : e ≠ 0) (kc : Int) (u : ByteArray) :
    Calls Tryz.prog 100 #[.pointer (some ⟨rb, 0, none⟩), .int .u8 kc, .string u] w fun r w' => r = .returned (rtokV (l[k]'h.hk)) ∧ Touch (· = rb) w w' ∧ Rz w' rb tb cap l fv pv k d e a := by
  by_cases h1 : tcode (l[k]'h.hk).1.k = kc
  · by_cases h2 : kc = 40
    · subst h2; exact over_err1 h he u h1
    · exact over_err2 h he kc u h1 (beq_no h2)
  · by_cases h2 : tcode (l[k]'h.hk).1.k = 40
    · exact over_err3 h he kc u h2 (bne_yes (by rw [← h2]; exact h1)) (by rw [← h2]; exact h1)
    · exact over_err4 h he kc _ u rfl (bne_yes h1) h1 (beq_no h2)
set_option maxHeartbeats 1000000 in
theorem over_kind1 (h : Rz w rb tb cap l fv pv k d 0 a) (kc : Int) (u : ByteArray) (hct : tcode (l[k]'h.hk).1.k = 40) (m1 : ((40 : Int) != kc) = true) (_m3 : ¬ (40 : Int) = kc) :
    Calls Tryz.prog 100 #[.pointer (some ⟨rb, 0, none⟩), .int .u8 kc, .string u] w fun r w' => r = .returned (rtokV (l[k]'h.hk)) ∧ Touch (· = rb) w w' ∧ Rz w' rb tb cap l fv pv k d 2 (l[k]'h.hk).1.at_ := by
  have hlt := h.lt
  have hl := h.hl
  have hd := h.hd
  have hne1 := Nat.ne_of_lt hlt.1
  have hne2 := Nat.ne_of_lt hlt.2
  have cn := now_any (h.alloc zTok)
  have hk := h.hk
  have hcv : rtokV (l[k]'h.hk) = .agg #[.int .u8 40, .string (l[k]'h.hk).2, .int .i64 (((l[k]'h.hk).1.at_ : Nat) : Int)] := by rw [← hct]
  clear hct
  generalize (l[k]'h.hk).2 = ts at *
  generalize (l[k]'h.hk).1.at_ = p at *
  generalize rtokV (l[k]'h.hk) = tv at *
  subst hcv
  go_enter Tryz.func100, Tryz.ntmps100
  go_wp2_with (first
    | (go_at_call 60; refine cn.mono ?_; rintro r w1 ⟨rfl, hb1⟩; have z1 := ((h.alloc zTok).below hb1).alloc (tokO 40 ts p); have b1 := ((Bx.new w).below hb1).below (below1 w1 (tokO 40 ts p)); have g1 := tokO_new w1 40 ts p; obtain ⟨c0, c1, c2, c3, c4, _⟩ := z1.cells; obtain ⟨v0, v1, v2, v3, v4, v5⟩ := b1.facts; obtain ⟨q0, q1, q2⟩ := g1.facts; have f1 := z1.free 1; have f2 := z1.free 2; have z0 := hb1.size; simp at z0; have ne3 : rb ≠ w1.heap.size := (by omega); have ne4 : w.heap.size ≠ w1.heap.size := (by omega))
    | (go_at_call 145; refine (wrong_no z2 (by decide) 3 _).mono ?_; rintro r w3 ⟨rfl, rfl⟩)
    | (go_at_call 145; refine (wrong_set2 z1 p).mono ?_; rintro r w2 ⟨rfl, ht2, z2⟩; have b2 := b1.touch ht2 (Ne.symm hne1); have g2 := g1.touch ht2 (Ne.symm ne3); obtain ⟨e0, e1, e2, e3, e4, _⟩ := z2.cells; obtain ⟨x0, x1, x2, x3, x4, x5⟩ := b2.facts; obtain ⟨y0, y1, y2⟩ := g2.facts; clear c0 c1 c2 c3 c4 v0 v1 v2 v3 v4 v5 q0 q1 q2 f1 f2))
  all_goals refine bodyPost_ret (v := .agg #[.int .u8 40, .string ts, .int .i64 ((p : Nat) : Int)]) (by simp [results, Tryz.results100, go_sem, x0, x1, x2]) rfl ⟨rfl, ?_⟩
  all_goals exact fin3 hlt.1 hlt.2 (Nat.le_refl _) ((Touch.of_below (((below1 w _).trans (hb1.mono (by simp))).alloc (by omega) _)).trans ht2) z2 _ _ _
set_option maxHeartbeats 1000000 in
theorem over_kind2 (h : Rz w rb tb cap l fv pv k d 0 a) (kc c : Int) (u : ByteArray) (hct : tcode (l[k]'h.hk).1.k = c) (m1 : (c != kc) = true) (_m3 : ¬ c = kc) (m2 : (c == 40) = false) :
    Calls Tryz.prog 100 #[.pointer (some ⟨rb, 0, none⟩), .int .u8 kc, .string u] w fun r w' => r = .returned (rtokV (l[k]'h.hk)) ∧ Touch (· = rb) w w' ∧ Rz w' rb tb cap l fv pv k d 2 (l[k]'h.hk).1.at_ := by
  have hlt := h.lt
  have hl := h.hl
  have hd := h.hd
  have hne1 := Nat.ne_of_lt hlt.1
  have hne2 := Nat.ne_of_lt hlt.2
  have cn := now_any (h.alloc zTok)
  have hk := h.hk
  have hcv : rtokV (l[k]'h.hk) = .agg #[.int .u8 c, .string (l[k]'h.hk).2, .int .i64 (((l[k]'h.hk).1.at_ : Nat) : Int)] := by rw [← hct]
  clear hct
  generalize (l[k]'h.hk).2 = ts at *
  generalize (l[k]'h.hk).1.at_ = p at *
  generalize rtokV (l[k]'h.hk) = tv at *
  subst hcv
  go_enter Tryz.func100, Tryz.ntmps100
  go_wp2_with (first
    | (go_at_call 60; refine cn.mono ?_; rintro r w1 ⟨rfl, hb1⟩; have z1 := ((h.alloc zTok).below hb1).alloc (tokO c ts p); have b1 := ((Bx.new w).below hb1).below (below1 w1 (tokO c ts p)); have g1 := tokO_new w1 c ts p; obtain ⟨c0, c1, c2, c3, c4, _⟩ := z1.cells; obtain ⟨v0, v1, v2, v3, v4, v5⟩ := b1.facts; obtain ⟨q0, q1, q2⟩ := g1.facts; have f1 := z1.free 1; have f2 := z1.free 2; have z0 := hb1.size; simp at z0; have ne3 : rb ≠ w1.heap.size := (by omega); have ne4 : w.heap.size ≠ w1.heap.size := (by omega))
    | (go_at_call 145; refine (wrong_no z2 (by decide) 3 _).mono ?_; rintro r w3 ⟨rfl, rfl⟩)
    | (go_at_call 145; refine (wrong_set2 z1 p).mono ?_; rintro r w2 ⟨rfl, ht2, z2⟩; have b2 := b1.touch ht2 (Ne.symm hne1); have g2 := g1.touch ht2 (Ne.symm ne3); obtain ⟨e0, e1, e2, e3, e4, _⟩ := z2.cells; obtain ⟨x0, x1, x2, x3, x4, x5⟩ := b2.facts; obtain ⟨y0, y1, y2⟩ := g2.facts; clear c0 c1 c2 c3 c4 v0 v1 v2 v3 v4 v5 q0 q1 q2 f1 f2))
  all_goals refine bodyPost_ret (v := .agg #[.int .u8 c, .string ts, .int .i64 ((p : Nat) : Int)]) (by simp [results, Tryz.results100, go_sem, x0, x1, x2]) rfl ⟨rfl, ?_⟩
  all_goals exact fin3 hlt.1 hlt.2 (Nat.le_refl _) ((Touch.of_below (((below1 w _).trans (hb1.mono (by simp))).alloc (by omega) _)).trans ht2) z2 _ _ _
/-- Another kind than that which must come. -/
theorem over_kind (h : Rz w rb tb cap l fv pv k d 0 a) (kc : Int) (u : ByteArray) (hne : tcode (l[k]'h.hk).1.k ≠ kc) :
    Calls Tryz.prog 100 #[.pointer (some ⟨rb, 0, none⟩), .int .u8 kc, .string u] w fun r w' => r = .returned (rtokV (l[k]'h.hk)) ∧ Touch (· = rb) w w' ∧ Rz w' rb tb cap l fv pv k d 2 (l[k]'h.hk).1.at_ := by
  by_cases h2 : tcode (l[k]'h.hk).1.k = 40
  · exact over_kind1 h kc u h2 (bne_yes (by rw [← h2]; exact hne)) (by rw [← h2]; exact hne)
  · exact over_kind2 h kc _ u rfl (bne_yes hne) hne (beq_no h2)
set_option maxHeartbeats 1000000 in
theorem over_deep (h : Rz w rb tb cap l fv pv k 16 0 a) (hct : tcode (l[k]'h.hk).1.k = 40) :
    Calls Tryz.prog 100 #[.pointer (some ⟨rb, 0, none⟩), .int .u8 40, .string ⟨#[]⟩] w fun r w' => r = .returned (rtokV (l[k]'h.hk)) ∧ Touch (· = rb) w w' ∧ Rz w' rb tb cap l fv pv k 16 3 (l[k]'h.hk).1.at_ := by
  have hlt := h.lt
  have hl := h.hl
  have hd := h.hd
  have hne1 := Nat.ne_of_lt hlt.1
  have hne2 := Nat.ne_of_lt hlt.2
  have cn := now_any (h.alloc zTok)
  have hk := h.hk
  have hcv : rtokV (l[k]'h.hk) = .agg #[.int .u8 40, .string (l[k]'h.hk).2, .int .i64 (((l[k]'h.hk).1.at_ : Nat) : Int)] := by rw [← hct]
  clear hct
  generalize (l[k]'h.hk).2 = ts at *
  generalize (l[k]'h.hk).1.at_ = p at *
  generalize rtokV (l[k]'h.hk) = tv at *
  subst hcv
  go_enter Tryz.func100, Tryz.ntmps100
  go_wp2_with (first
    | (go_at_call 60; refine cn.mono ?_; rintro r w1 ⟨rfl, hb1⟩; have z1 := ((h.alloc zTok).below hb1).alloc (tokO 40 ts p); have b1 := ((Bx.new w).below hb1).below (below1 w1 (tokO 40 ts p)); have g1 := tokO_new w1 40 ts p; obtain ⟨c0, c1, c2, c3, c4, _⟩ := z1.cells; obtain ⟨v0, v1, v2, v3, v4, v5⟩ := b1.facts; obtain ⟨q0, q1, q2⟩ := g1.facts; have f1 := z1.free 1; have f2 := z1.free 2; have z0 := hb1.size; simp at z0; have ne3 : rb ≠ w1.heap.size := (by omega); have ne4 : w.heap.size ≠ w1.heap.size := (by omega))
    | (go_at_call 145; refine (wrong_set3 z1 p).mono ?_; rintro r w2 ⟨rfl, ht2, z2⟩; have b2 := b1.touch ht2 (Ne.symm hne1); have g2 := g1.touch ht2 (Ne.symm ne3); obtain ⟨e0, e1, e2, e3, e4, _⟩ := z2.cells; obtain ⟨x0, x1, x2, x3, x4, x5⟩ := b2.facts; obtain ⟨y0, y1, y2⟩ := g2.facts; clear c0 c1 c2 c3 c4 v0 v1 v2 v3 v4 v5 q0 q1 q2 f1 f2))
  all_goals refine bodyPost_ret (v := .agg #[.int .u8 40, .string ts, .int .i64 ((p : Nat) : Int)]) (by simp [results, Tryz.results100, go_sem, x0, x1, x2]) rfl ⟨rfl, ?_⟩
  all_goals exact fin3 hlt.1 hlt.2 (Nat.le_refl _) ((Touch.of_below (((below1 w _).trans (hb1.mono (by simp))).alloc (by omega) _)).trans ht2) z2 _ _ _
set_option maxHeartbeats 1000000 in
theorem over_nofun (h : Rz w rb tb cap l fv pv k d 0 a) (hct : tcode (l[k]'h.hk).1.k = 97) (hb : ((l[k]'h.hk).2.toList == [102, 117, 110]) = false) :
    Calls Tryz.prog 100 #[.pointer (some ⟨rb, 0, none⟩), .int .u8 97, .string funB] w fun r w' => r = .returned (rtokV (l[k]'h.hk)) ∧ Touch (· = rb) w w' ∧ Rz w' rb tb cap l fv pv k d 2 (l[k]'h.hk).1.at_ := by
  have hlt := h.lt
  have hl := h.hl
  have hd := h.hd
  have hne1 := Nat.ne_of_lt hlt.1
  have hne2 := Nat.ne_of_lt hlt.2
  have cn := now_any (h.alloc zTok)
  have hk := h.hk
  have hcv : rtokV (l[k]'h.hk) = .agg #[.int .u8 97, .string (l[k]'h.hk).2, .int .i64 (((l[k]'h.hk).1.at_ : Nat) : Int)] := by rw [← hct]
  clear hct
  generalize (l[k]'h.hk).2 = ts at *
  generalize (l[k]'h.hk).1.at_ = p at *
  generalize rtokV (l[k]'h.hk) = tv at *
  subst hcv
  go_enter Tryz.func100, Tryz.ntmps100
  go_wp2_with (first
    | (go_at_call 60; refine cn.mono ?_; rintro r w1 ⟨rfl, hb1⟩; have z1 := ((h.alloc zTok).below hb1).alloc (tokO 97 ts p); have b1 := ((Bx.new w).below hb1).below (below1 w1 (tokO 97 ts p)); have g1 := tokO_new w1 97 ts p; obtain ⟨c0, c1, c2, c3, c4, _⟩ := z1.cells; obtain ⟨v0, v1, v2, v3, v4, v5⟩ := b1.facts; obtain ⟨q0, q1, q2⟩ := g1.facts; have f1 := z1.free 1; have f2 := z1.free 2; have z0 := hb1.size; simp at z0; have ne3 : rb ≠ w1.heap.size := (by omega); have ne4 : w.heap.size ≠ w1.heap.size := (by omega))
    | (go_at_call 145; refine (wrong_set2 z1 p).mono ?_; rintro r w2 ⟨rfl, ht2, z2⟩; have b2 := b1.touch ht2 (Ne.symm hne1); have g2 := g1.touch ht2 (Ne.symm ne3); obtain ⟨e0, e1, e2, e3, e4, _⟩ := z2.cells; obtain ⟨x0, x1, x2, x3, x4, x5⟩ := b2.facts; obtain ⟨y0, y1, y2⟩ := g2.facts; clear c0 c1 c2 c3 c4 v0 v1 v2 v3 v4 v5 q0 q1 q2 f1 f2))
  all_goals refine bodyPost_ret (v := .agg #[.int .u8 97, .string ts, .int .i64 ((p : Nat) : Int)]) (by simp [results, Tryz.results100, go_sem, x0, x1, x2]) rfl ⟨rfl, ?_⟩
  all_goals exact fin3 hlt.1 hlt.2 (Nat.le_refl _) ((Touch.of_below (((below1 w _).trans (hb1.mono (by simp))).alloc (by omega) _)).trans ht2) z2 _ _ _
set_option maxHeartbeats 1000000 in
theorem over_opn (h : Rz w rb tb cap l fv pv k d 0 a) (hct : tcode (l[k]'h.hk).1.k = 40) (hd2 : d < 16) (hn : k + 1 < l.length) :
    Calls Tryz.prog 100 #[.pointer (some ⟨rb, 0, none⟩), .int .u8 40, .string ⟨#[]⟩] w fun r w' => r = .returned (rtokV (l[k]'h.hk)) ∧ Touch (· = rb) w w' ∧ Rz w' rb tb cap l fv pv (k + 1) (d + 1) 0 a := by
  have hlt := h.lt
  have hl := h.hl
  have hd := h.hd
  have hne1 := Nat.ne_of_lt hlt.1
  have hne2 := Nat.ne_of_lt hlt.2
  have cn := now_any (h.alloc zTok)
  have hk := h.hk
  have hcv : rtokV (l[k]'h.hk) = .agg #[.int .u8 40, .string (l[k]'h.hk).2, .int .i64 (((l[k]'h.hk).1.at_ : Nat) : Int)] := by rw [← hct]
  clear hct
  generalize (l[k]'h.hk).2 = ts at *
  generalize (l[k]'h.hk).1.at_ = p at *
  generalize rtokV (l[k]'h.hk) = tv at *
  subst hcv
  go_enter Tryz.func100, Tryz.ntmps100
  go_wp2_with (first
    | (go_at_call 60; refine cn.mono ?_; rintro r w1 ⟨rfl, hb1⟩; have z1 := ((h.alloc zTok).below hb1).alloc (tokO 40 ts p); have b1 := ((Bx.new w).below hb1).below (below1 w1 (tokO 40 ts p)); have g1 := tokO_new w1 40 ts p; obtain ⟨c0, c1, c2, c3, c4, _⟩ := z1.cells; obtain ⟨v0, v1, v2, v3, v4, v5⟩ := b1.facts; obtain ⟨q0, q1, q2⟩ := g1.facts; have f1 := z1.free 1; have f2 := z1.free 2; have z0 := hb1.size; simp at z0; have ne3 : rb ≠ w1.heap.size := (by omega); have ne4 : w.heap.size ≠ w1.heap.size := (by omega)))
  have H := z1.step (d' := d + 1) (by omega) hn
  refine bodyPost_ret (v := .agg #[.int .u8 40, .string ts, .int .i64 ((p : Nat) : Int)]) (by simp [results, Tryz.results100, go_sem, v0, v1, v2]) rfl ⟨rfl, ?_⟩
  exact fin3 hlt.1 hlt.2 (Nat.le_refl _) ((Touch.of_below (((below1 w _).trans (hb1.mono (by simp))).alloc (by omega) _)).trans H.2) H.1 _ _ _
set_option maxHeartbeats 1000000 in
theorem over_cls (h : Rz w rb tb cap l fv pv k (d + 1) 0 a) (hct : tcode (l[k]'h.hk).1.k = 41) (hn : k + 1 < l.length) :
    Calls Tryz.prog 100 #[.pointer (some ⟨rb, 0, none⟩), .int .u8 41, .string ⟨#[]⟩] w fun r w' => r = .returned (rtokV (l[k]'h.hk)) ∧ Touch (· = rb) w w' ∧ Rz w' rb tb cap l fv pv (k + 1) d 0 a := by
  have hlt := h.lt
  have hl := h.hl
  have hd := h.hd
  have hne1 := Nat.ne_of_lt hlt.1
  have hne2 := Nat.ne_of_lt hlt.2
  have cn := now_any (h.alloc zTok)
  have hk := h.hk
  have hcv : rtokV (l[k]'h.hk) = .agg #[.int .u8 41, .string (l[k]'h.hk).2, .int .i64 (((l[k]'h.hk).1.at_ : Nat) : Int)] := by rw [← hct]
  clear hct
  generalize (l[k]'h.hk).2 = ts at *
  generalize (l[k]'h.hk).1.at_ = p at *
  generalize rtokV (l[k]'h.hk) = tv at *
  subst hcv
  go_enter Tryz.func100, Tryz.ntmps100
  go_wp2_with (first
    | (go_at_call 60; refine cn.mono ?_; rintro r w1 ⟨rfl, hb1⟩; have z1 := ((h.alloc zTok).below hb1).alloc (tokO 41 ts p); have b1 := ((Bx.new w).below hb1).below (below1 w1 (tokO 41 ts p)); have g1 := tokO_new w1 41 ts p; obtain ⟨c0, c1, c2, c3, c4, _⟩ := z1.cells; obtain ⟨v0, v1, v2, v3, v4, v5⟩ := b1.facts; obtain ⟨q0, q1, q2⟩ := g1.facts; have f1 := z1.free 1; have f2 := z1.free 2; have z0 := hb1.size; simp at z0; have ne3 : rb ≠ w1.heap.size := (by omega); have ne4 : w.heap.size ≠ w1.heap.size := (by omega)))
  have H := z1.step (d' := d) (by omega) hn
  refine bodyPost_ret (v := .agg #[.int .u8 41, .string ts, .int .i64 ((p : Nat) : Int)]) (by simp [results, Tryz.results100, go_sem, v0, v1, v2]) rfl ⟨rfl, ?_⟩
  exact fin3 hlt.1 hlt.2 (Nat.le_refl _) ((Touch.of_below (((below1 w _).trans (hb1.mono (by simp))).alloc (by omega) _)).trans H.2) H.1 _ _ _
set_option maxHeartbeats 1000000 in
theorem over_num (h : Rz w rb tb cap l fv pv k d 0 a) (hct : tcode (l[k]'h.hk).1.k = 49) (hn : k + 1 < l.length) :
    Calls Tryz.prog 100 #[.pointer (some ⟨rb, 0, none⟩), .int .u8 49, .string ⟨#[]⟩] w fun r w' => r = .returned (rtokV (l[k]'h.hk)) ∧ Touch (· = rb) w w' ∧ Rz w' rb tb cap l fv pv (k + 1) d 0 a := by
  have hlt := h.lt
  have hl := h.hl
  have hd := h.hd
  have hne1 := Nat.ne_of_lt hlt.1
  have hne2 := Nat.ne_of_lt hlt.2
  have cn := now_any (h.alloc zTok)
  have hk := h.hk
  have hcv : rtokV (l[k]'h.hk) = .agg #[.int .u8 49, .string (l[k]'h.hk).2, .int .i64 (((l[k]'h.hk).1.at_ : Nat) : Int)] := by rw [← hct]
  clear hct
  generalize (l[k]'h.hk).2 = ts at *
  generalize (l[k]'h.hk).1.at_ = p at *
  generalize rtokV (l[k]'h.hk) = tv at *
  subst hcv
  go_enter Tryz.func100, Tryz.ntmps100
  go_wp2_with (first
    | (go_at_call 60; refine cn.mono ?_; rintro r w1 ⟨rfl, hb1⟩; have z1 := ((h.alloc zTok).below hb1).alloc (tokO 49 ts p); have b1 := ((Bx.new w).below hb1).below (below1 w1 (tokO 49 ts p)); have g1 := tokO_new w1 49 ts p; obtain ⟨c0, c1, c2, c3, c4, _⟩ := z1.cells; obtain ⟨v0, v1, v2, v3, v4, v5⟩ := b1.facts; obtain ⟨q0, q1, q2⟩ := g1.facts; have f1 := z1.free 1; have f2 := z1.free 2; have z0 := hb1.size; simp at z0; have ne3 : rb ≠ w1.heap.size := (by omega); have ne4 : w.heap.size ≠ w1.heap.size := (by omega)))
  have H := z1.step0 hn
  refine bodyPost_ret (v := .agg #[.int .u8 49, .string ts, .int .i64 ((p : Nat) : Int)]) (by simp [results, Tryz.results100, go_sem, v0, v1, v2]) rfl ⟨rfl, ?_⟩
  exact fin3 hlt.1 hlt.2 (Nat.le_refl _) ((Touch.of_below (((below1 w _).trans (hb1.mono (by simp))).alloc (by omega) _)).trans H.2) H.1 _ _ _
set_option maxHeartbeats 1000000 in
theorem over_txt (h : Rz w rb tb cap l fv pv k d 0 a) (hct : tcode (l[k]'h.hk).1.k = 39) (hn : k + 1 < l.length) :
    Calls Tryz.prog 100 #[.pointer (some ⟨rb, 0, none⟩), .int .u8 39, .string ⟨#[]⟩] w fun r w' => r = .returned (rtokV (l[k]'h.hk)) ∧ Touch (· = rb) w w' ∧ Rz w' rb tb cap l fv pv (k + 1) d 0 a := by
  have hlt := h.lt
  have hl := h.hl
  have hd := h.hd
  have hne1 := Nat.ne_of_lt hlt.1
  have hne2 := Nat.ne_of_lt hlt.2
  have cn := now_any (h.alloc zTok)
  have hk := h.hk
  have hcv : rtokV (l[k]'h.hk) = .agg #[.int .u8 39, .string (l[k]'h.hk).2, .int .i64 (((l[k]'h.hk).1.at_ : Nat) : Int)] := by rw [← hct]
  clear hct
  generalize (l[k]'h.hk).2 = ts at *
  generalize (l[k]'h.hk).1.at_ = p at *
  generalize rtokV (l[k]'h.hk) = tv at *
  subst hcv
  go_enter Tryz.func100, Tryz.ntmps100
  go_wp2_with (first
    | (go_at_call 60; refine cn.mono ?_; rintro r w1 ⟨rfl, hb1⟩; have z1 := ((h.alloc zTok).below hb1).alloc (tokO 39 ts p); have b1 := ((Bx.new w).below hb1).below (below1 w1 (tokO 39 ts p)); have g1 := tokO_new w1 39 ts p; obtain ⟨c0, c1, c2, c3, c4, _⟩ := z1.cells; obtain ⟨v0, v1, v2, v3, v4, v5⟩ := b1.facts; obtain ⟨q0, q1, q2⟩ := g1.facts; have f1 := z1.free 1; have f2 := z1.free 2; have z0 := hb1.size; simp at z0; have ne3 : rb ≠ w1.heap.size := (by omega); have ne4 : w.heap.size ≠ w1.heap.size := (by omega)))
  have H := z1.step0 hn
  refine bodyPost_ret (v := .agg #[.int .u8 39, .string ts, .int .i64 ((p : Nat) : Int)]) (by simp [results, Tryz.results100, go_sem, v0, v1, v2]) rfl ⟨rfl, ?_⟩
  exact fin3 hlt.1 hlt.2 (Nat.le_refl _) ((Touch.of_below (((below1 w _).trans (hb1.mono (by simp))).alloc (by omega) _)).trans H.2) H.1 _ _ _
set_option maxHeartbeats 1000000 in
theorem over_word (h : Rz w rb tb cap l fv pv k d 0 a) (hct : tcode (l[k]'h.hk).1.k = 97) (hn : k + 1 < l.length) :
    Calls Tryz.prog 100 #[.pointer (some ⟨rb, 0, none⟩), .int .u8 97, .string ⟨#[]⟩] w fun r w' => r = .returned (rtokV (l[k]'h.hk)) ∧ Touch (· = rb) w w' ∧ Rz w' rb tb cap l fv pv (k + 1) d 0 a := by
  have hlt := h.lt
  have hl := h.hl
  have hd := h.hd
  have hne1 := Nat.ne_of_lt hlt.1
  have hne2 := Nat.ne_of_lt hlt.2
  have cn := now_any (h.alloc zTok)
  have hk := h.hk
  have hcv : rtokV (l[k]'h.hk) = .agg #[.int .u8 97, .string (l[k]'h.hk).2, .int .i64 (((l[k]'h.hk).1.at_ : Nat) : Int)] := by rw [← hct]
  clear hct
  generalize (l[k]'h.hk).2 = ts at *
  generalize (l[k]'h.hk).1.at_ = p at *
  generalize rtokV (l[k]'h.hk) = tv at *
  subst hcv
  go_enter Tryz.func100, Tryz.ntmps100
  go_wp2_with (first
    | (go_at_call 60; refine cn.mono ?_; rintro r w1 ⟨rfl, hb1⟩; have z1 := ((h.alloc zTok).below hb1).alloc (tokO 97 ts p); have b1 := ((Bx.new w).below hb1).below (below1 w1 (tokO 97 ts p)); have g1 := tokO_new w1 97 ts p; obtain ⟨c0, c1, c2, c3, c4, _⟩ := z1.cells; obtain ⟨v0, v1, v2, v3, v4, v5⟩ := b1.facts; obtain ⟨q0, q1, q2⟩ := g1.facts; have f1 := z1.free 1; have f2 := z1.free 2; have z0 := hb1.size; simp at z0; have ne3 : rb ≠ w1.heap.size := (by omega); have ne4 : w.heap.size ≠ w1.heap.size := (by omega)))
  have H := z1.step0 hn
  refine bodyPost_ret (v := .agg #[.int .u8 97, .string ts, .int .i64 ((p : Nat) : Int)]) (by simp [results, Tryz.results100, go_sem, v0, v1, v2]) rfl ⟨rfl, ?_⟩
  exact fin3 hlt.1 hlt.2 (Nat.le_refl _) ((Touch.of_below (((below1 w _).trans (hb1.mono (by simp))).alloc (by omega) _)).trans H.2) H.1 _ _ _
set_option maxHeartbeats 1000000 in
theorem over_fun (h : Rz w rb tb cap l fv pv k d 0 a) (hct : tcode (l[k]'h.hk).1.k = 97) (hb : ((l[k]'h.hk).2.toList == [102, 117, 110]) = true) (hn : k + 1 < l.length) :
    Calls Tryz.prog 100 #[.pointer (some ⟨rb, 0, none⟩), .int .u8 97, .string funB] w fun r w' => r = .returned (rtokV (l[k]'h.hk)) ∧ Touch (· = rb) w w' ∧ Rz w' rb tb cap l fv pv (k + 1) d 0 a := by
  have hlt := h.lt
  have hl := h.hl
  have hd := h.hd
  have hne1 := Nat.ne_of_lt hlt.1
  have hne2 := Nat.ne_of_lt hlt.2
  have cn := now_any (h.alloc zTok)
  have hk := h.hk
  have hcv : rtokV (l[k]'h.hk) = .agg #[.int .u8 97, .string (l[k]'h.hk).2, .int .i64 (((l[k]'h.hk).1.at_ : Nat) : Int)] := by rw [← hct]
  clear hct
  generalize (l[k]'h.hk).2 = ts at *
  generalize (l[k]'h.hk).1.at_ = p at *
  generalize rtokV (l[k]'h.hk) = tv at *
  subst hcv
  go_enter Tryz.func100, Tryz.ntmps100
  go_wp2_with (first
    | (go_at_call 60; refine cn.mono ?_; rintro r w1 ⟨rfl, hb1⟩; have z1 := ((h.alloc zTok).below hb1).alloc (tokO 97 ts p); have b1 := ((Bx.new w).below hb1).below (below1 w1 (tokO 97 ts p)); have g1 := tokO_new w1 97 ts p; obtain ⟨c0, c1, c2, c3, c4, _⟩ := z1.cells; obtain ⟨v0, v1, v2, v3, v4, v5⟩ := b1.facts; obtain ⟨q0, q1, q2⟩ := g1.facts; have f1 := z1.free 1; have f2 := z1.free 2; have z0 := hb1.size; simp at z0; have ne3 : rb ≠ w1.heap.size := (by omega); have ne4 : w.heap.size ≠ w1.heap.size := (by omega)))
  have H := z1.step0 hn
  refine bodyPost_ret (v := .agg #[.int .u8 97, .string ts, .int .i64 ((p : Nat) : Int)]) (by simp [results, Tryz.results100, go_sem, v0, v1, v2]) rfl ⟨rfl, ?_⟩
  exact fin3 hlt.1 hlt.2 (Nat.le_refl _) ((Touch.of_below (((below1 w _).trans (hb1.mono (by simp))).alloc (by omega) _)).trans H.2) H.1 _ _ _
end
end Go.Proofs.YtdiefbahmcihlaaGreatDoor
