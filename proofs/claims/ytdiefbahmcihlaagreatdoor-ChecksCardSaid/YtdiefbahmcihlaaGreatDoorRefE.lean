/-
  The reference: name.
-/
import Derived.Test.YtdiefbahmcihlaaGreatDoorRefD
import Derived.Test.YtdiefbahmcihlaaGreatDoorPure
namespace Go.Proofs.YtdiefbahmcihlaaGreatDoor
open Go.RowKit
attribute [local go_sem ↓] Go.wp_at_zero Go.wp_at_succ

section
variable {w : World} {rb tb cap : Nat} {l : List (Tok × ByteArray)} {fv pv : Value} {k d e a : Nat}
set_option maxHeartbeats 1000000 in
theorem name_err_a (h : Rz w rb tb cap l fv pv k d e a) (he : e ≠ 0) (hsh : ∃ x, shapeL (l[k]'h.hk).2.data.toList = some x) :
    Calls Tryz.prog 101 #[.pointer (some ⟨rb, 0, none⟩)] w fun r w' => r = .returned (rtokV (l[k]'h.hk)) ∧ Touch (· = rb) w w' ∧ Rz w' rb tb cap l fv pv k d e a := by
  have hlt := h.lt
  have hl := h.hl
  have hd := h.hd
  have hne1 := Nat.ne_of_lt hlt.1
  have hne2 := Nat.ne_of_lt hlt.2
  have cn := now_any (h.alloc zTok)
  have hk := h.hk
  have cf := forms_any (l[k]'h.hk).2
  obtain ⟨⟨sb, sn⟩, hsh⟩ := hsh
  rw [hsh] at cf
  clear hsh
  have hcv : rtokV (l[k]'h.hk) = .agg #[.int .u8 (tcode (l[k]'h.hk).1.k), .string (l[k]'h.hk).2, .int .i64 (((l[k]'h.hk).1.at_ : Nat) : Int)] := rfl
  have OVR : Aside (∀ (X : World) (e a : Nat), Rz X rb tb cap l fv pv k d e a → e ≠ 0 → Calls Tryz.prog 100 #[.pointer (some ⟨rb, 0, none⟩), .int .u8 97, .string ⟨#[]⟩] X fun r w' => r = .returned (rtokV (l[k]'h.hk)) ∧ Touch (· = rb) X w' ∧ Rz w' rb tb cap l fv pv k d e a) := fun X e a hz he => over_err hz he 97 ⟨#[]⟩
  generalize tcode (l[k]'h.hk).1.k = c at *
  generalize (l[k]'h.hk).2 = ts at *
  generalize (l[k]'h.hk).1.at_ = p at *
  generalize rtokV (l[k]'h.hk) = tv at *
  subst hcv
  go_enter Tryz.func101, Tryz.ntmps101
  go_wp2_with (first
    | (go_at_call 60; refine cn.mono ?_; rintro r w1 ⟨rfl, hb1⟩; have z1 := ((h.alloc zTok).below hb1).alloc (tokO c ts p); have b1 := ((Bx.new w).below hb1).below (below1 w1 (tokO c ts p)); have g1 := tokO_new w1 c ts p; obtain ⟨v0, v1, v2, v3, v4, v5⟩ := b1.facts; obtain ⟨q0, q1, q2⟩ := g1.facts; have z0 := hb1.size; simp at z0; have ne3 : rb ≠ w1.heap.size := (by omega); have ne4 : w.heap.size ≠ w1.heap.size := (by omega))
    | (go_at_call 146; refine (cf _).mono ?_; rintro r w9 ⟨rfl, rfl⟩; simp only [formsV])
    | (go_at_call 145; refine (wrong_no z1 he _ _).mono ?_; rintro r w9 ⟨rfl, rfl⟩)
    | (go_at_call 100; refine (OVR.out _ _ _ z1 he).mono ?_; rintro r w4 ⟨rfl, ht4, z4⟩; have b4 := b1.touch ht4 (Ne.symm hne1); obtain ⟨y0, y1, y2, y3, y4, y5⟩ := b4.facts; clear v0 v1 v2 v3 v4 v5 q0 q1 q2))
  have tall := (Touch.of_below (((below1 w _).trans (hb1.mono (by simp))).alloc (by omega) _)).trans ht4
  refine bodyPost_ret (v := .agg #[.int .u8 c, .string ts, .int .i64 ((p : Nat) : Int)]) (by simp [results, Tryz.results101, go_sem, y0, y1, y2]) rfl ⟨rfl, ?_⟩
  exact fin3 hlt.1 hlt.2 (Nat.le_refl _) tall z4 _ _ _
set_option maxHeartbeats 1000000 in
theorem name_err_b (h : Rz w rb tb cap l fv pv k d e a) (he : e ≠ 0) (hsh : shapeL (l[k]'h.hk).2.data.toList = none) (hfu : ((l[k]'h.hk).2.toList == [102, 117, 110]) = true) :
    Calls Tryz.prog 101 #[.pointer (some ⟨rb, 0, none⟩)] w fun r w' => r = .returned (rtokV (l[k]'h.hk)) ∧ Touch (· = rb) w w' ∧ Rz w' rb tb cap l fv pv k d e a := by
  have hlt := h.lt
  have hl := h.hl
  have hd := h.hd
  have hne1 := Nat.ne_of_lt hlt.1
  have hne2 := Nat.ne_of_lt hlt.2
  have cn := now_any (h.alloc zTok)
  have hk := h.hk
  have cf := forms_any (l[k]'h.hk).2
  rw [hsh] at cf
  clear hsh
  have hcv : rtokV (l[k]'h.hk) = .agg #[.int .u8 (tcode (l[k]'h.hk).1.k), .string (l[k]'h.hk).2, .int .i64 (((l[k]'h.hk).1.at_ : Nat) : Int)] := rfl
  have OVR : Aside (∀ (X : World) (e a : Nat), Rz X rb tb cap l fv pv k d e a → e ≠ 0 → Calls Tryz.prog 100 #[.pointer (some ⟨rb, 0, none⟩), .int .u8 97, .string ⟨#[]⟩] X fun r w' => r = .returned (rtokV (l[k]'h.hk)) ∧ Touch (· = rb) X w' ∧ Rz w' rb tb cap l fv pv k d e a) := fun X e a hz he => over_err hz he 97 ⟨#[]⟩
  generalize tcode (l[k]'h.hk).1.k = c at *
  generalize (l[k]'h.hk).2 = ts at *
  generalize (l[k]'h.hk).1.at_ = p at *
  generalize rtokV (l[k]'h.hk) = tv at *
  subst hcv
  go_enter Tryz.func101, Tryz.ntmps101
  go_wp2_with (first
    | (go_at_call 60; refine cn.mono ?_; rintro r w1 ⟨rfl, hb1⟩; have z1 := ((h.alloc zTok).below hb1).alloc (tokO c ts p); have b1 := ((Bx.new w).below hb1).below (below1 w1 (tokO c ts p)); have g1 := tokO_new w1 c ts p; obtain ⟨v0, v1, v2, v3, v4, v5⟩ := b1.facts; obtain ⟨q0, q1, q2⟩ := g1.facts; have z0 := hb1.size; simp at z0; have ne3 : rb ≠ w1.heap.size := (by omega); have ne4 : w.heap.size ≠ w1.heap.size := (by omega))
    | (go_at_call 146; refine (cf _).mono ?_; rintro r w9 ⟨rfl, rfl⟩; simp only [formsV])
    | (go_at_call 145; refine (wrong_no z1 he _ _).mono ?_; rintro r w9 ⟨rfl, rfl⟩)
    | (go_at_call 100; refine (OVR.out _ _ _ z1 he).mono ?_; rintro r w4 ⟨rfl, ht4, z4⟩; have b4 := b1.touch ht4 (Ne.symm hne1); obtain ⟨y0, y1, y2, y3, y4, y5⟩ := b4.facts; clear v0 v1 v2 v3 v4 v5 q0 q1 q2))
  have tall := (Touch.of_below (((below1 w _).trans (hb1.mono (by simp))).alloc (by omega) _)).trans ht4
  refine bodyPost_ret (v := .agg #[.int .u8 c, .string ts, .int .i64 ((p : Nat) : Int)]) (by simp [results, Tryz.results101, go_sem, y0, y1, y2]) rfl ⟨rfl, ?_⟩
  exact fin3 hlt.1 hlt.2 (Nat.le_refl _) tall z4 _ _ _
set_option maxHeartbeats 1000000 in
theorem name_err_c (h : Rz w rb tb cap l fv pv k d e a) (he : e ≠ 0) (hsh : shapeL (l[k]'h.hk).2.data.toList = none) (hfu : ((l[k]'h.hk).2.toList == [102, 117, 110]) = false) :
    Calls Tryz.prog 101 #[.pointer (some ⟨rb, 0, none⟩)] w fun r w' => r = .returned (rtokV (l[k]'h.hk)) ∧ Touch (· = rb) w w' ∧ Rz w' rb tb cap l fv pv k d e a := by
  have hlt := h.lt
  have hl := h.hl
  have hd := h.hd
  have hne1 := Nat.ne_of_lt hlt.1
  have hne2 := Nat.ne_of_lt hlt.2
  have cn := now_any (h.alloc zTok)
  have hk := h.hk
  have cf := forms_any (l[k]'h.hk).2
  rw [hsh] at cf
  clear hsh
  have hcv : rtokV (l[k]'h.hk) = .agg #[.int .u8 (tcode (l[k]'h.hk).1.k), .string (l[k]'h.hk).2, .int .i64 (((l[k]'h.hk).1.at_ : Nat) : Int)] := rfl
  have OVR : Aside (∀ (X : World) (e a : Nat), Rz X rb tb cap l fv pv k d e a → e ≠ 0 → Calls Tryz.prog 100 #[.pointer (some ⟨rb, 0, none⟩), .int .u8 97, .string ⟨#[]⟩] X fun r w' => r = .returned (rtokV (l[k]'h.hk)) ∧ Touch (· = rb) X w' ∧ Rz w' rb tb cap l fv pv k d e a) := fun X e a hz he => over_err hz he 97 ⟨#[]⟩
  generalize tcode (l[k]'h.hk).1.k = c at *
  generalize (l[k]'h.hk).2 = ts at *
  generalize (l[k]'h.hk).1.at_ = p at *
  generalize rtokV (l[k]'h.hk) = tv at *
  subst hcv
  go_enter Tryz.func101, Tryz.ntmps101
  go_wp2_with (first
    | (go_at_call 60; refine cn.mono ?_; rintro r w1 ⟨rfl, hb1⟩; have z1 := ((h.alloc zTok).below hb1).alloc (tokO c ts p); have b1 := ((Bx.new w).below hb1).below (below1 w1 (tokO c ts p)); have g1 := tokO_new w1 c ts p; obtain ⟨v0, v1, v2, v3, v4, v5⟩ := b1.facts; obtain ⟨q0, q1, q2⟩ := g1.facts; have z0 := hb1.size; simp at z0; have ne3 : rb ≠ w1.heap.size := (by omega); have ne4 : w.heap.size ≠ w1.heap.size := (by omega))
    | (go_at_call 146; refine (cf _).mono ?_; rintro r w9 ⟨rfl, rfl⟩; simp only [formsV])
    | (go_at_call 100; refine (OVR.out _ _ _ z1 he).mono ?_; rintro r w4 ⟨rfl, ht4, z4⟩; have b4 := b1.touch ht4 (Ne.symm hne1); obtain ⟨y0, y1, y2, y3, y4, y5⟩ := b4.facts; clear v0 v1 v2 v3 v4 v5 q0 q1 q2))
  have tall := (Touch.of_below (((below1 w _).trans (hb1.mono (by simp))).alloc (by omega) _)).trans ht4
  refine bodyPost_ret (v := .agg #[.int .u8 c, .string ts, .int .i64 ((p : Nat) : Int)]) (by simp [results, Tryz.results101, go_sem, y0, y1, y2]) rfl ⟨rfl, ?_⟩
  exact fin3 hlt.1 hlt.2 (Nat.le_refl _) tall z4 _ _ _
/-- With an error there nothing turns. -/
theorem name_err (h : Rz w rb tb cap l fv pv k d e a) (he : e ≠ 0) :
    Calls Tryz.prog 101 #[.pointer (some ⟨rb, 0, none⟩)] w fun r w' => r = .returned (rtokV (l[k]'h.hk)) ∧ Touch (· = rb) w w' ∧ Rz w' rb tb cap l fv pv k d e a := by
  cases hs : shapeL (l[k]'h.hk).2.data.toList with
  | some x => exact name_err_a h he ⟨x, hs⟩
  | none =>
    cases hf : (l[k]'h.hk).2.toList == [102, 117, 110] with
    | true => exact name_err_b h he hs hf
    | false => exact name_err_c h he hs hf
set_option maxHeartbeats 1000000 in
theorem name_res_a (h : Rz w rb tb cap l fv pv k d 0 a) (hsh : ∃ x, shapeL (l[k]'h.hk).2.data.toList = some x) :
    Calls Tryz.prog 101 #[.pointer (some ⟨rb, 0, none⟩)] w fun r w' => r = .returned (rtokV (l[k]'h.hk)) ∧ Touch (· = rb) w w' ∧ Rz w' rb tb cap l fv pv k d 2 (l[k]'h.hk).1.at_ := by
  have hlt := h.lt
  have hl := h.hl
  have hd := h.hd
  have hne1 := Nat.ne_of_lt hlt.1
  have hne2 := Nat.ne_of_lt hlt.2
  have cn := now_any (h.alloc zTok)
  have hk := h.hk
  have cf := forms_any (l[k]'h.hk).2
  obtain ⟨⟨sb, sn⟩, hsh⟩ := hsh
  rw [hsh] at cf
  clear hsh
  have hcv : rtokV (l[k]'h.hk) = .agg #[.int .u8 (tcode (l[k]'h.hk).1.k), .string (l[k]'h.hk).2, .int .i64 (((l[k]'h.hk).1.at_ : Nat) : Int)] := rfl
  have OVR : Aside (∀ (X : World) (e a : Nat), Rz X rb tb cap l fv pv k d e a → e ≠ 0 → Calls Tryz.prog 100 #[.pointer (some ⟨rb, 0, none⟩), .int .u8 97, .string ⟨#[]⟩] X fun r w' => r = .returned (rtokV (l[k]'h.hk)) ∧ Touch (· = rb) X w' ∧ Rz w' rb tb cap l fv pv k d e a) := fun X e a hz he => over_err hz he 97 ⟨#[]⟩
  generalize tcode (l[k]'h.hk).1.k = c at *
  generalize (l[k]'h.hk).2 = ts at *
  generalize (l[k]'h.hk).1.at_ = p at *
  generalize rtokV (l[k]'h.hk) = tv at *
  subst hcv
  go_enter Tryz.func101, Tryz.ntmps101
  go_wp2_with (first
    | (go_at_call 60; refine cn.mono ?_; rintro r w1 ⟨rfl, hb1⟩; have z1 := ((h.alloc zTok).below hb1).alloc (tokO c ts p); have b1 := ((Bx.new w).below hb1).below (below1 w1 (tokO c ts p)); have g1 := tokO_new w1 c ts p; obtain ⟨v0, v1, v2, v3, v4, v5⟩ := b1.facts; obtain ⟨q0, q1, q2⟩ := g1.facts; have z0 := hb1.size; simp at z0; have ne3 : rb ≠ w1.heap.size := (by omega); have ne4 : w.heap.size ≠ w1.heap.size := (by omega))
    | (go_at_call 146; refine (cf _).mono ?_; rintro r w9 ⟨rfl, rfl⟩; simp only [formsV])
    | (go_at_call 100; refine (OVR.out _ _ _ z2 (by decide)).mono ?_; rintro r w4 ⟨rfl, ht4, z4⟩; have b4 := b2.touch ht4 (Ne.symm hne1); obtain ⟨y0, y1, y2, y3, y4, y5⟩ := b4.facts; clear x0 x1 x2 x3 x4 x5)
    | (go_at_call 145; refine (wrong_set2 z1 p).mono ?_; rintro r w2 ⟨rfl, ht2, z2⟩; have b2 := b1.touch ht2 (Ne.symm hne1); obtain ⟨x0, x1, x2, x3, x4, x5⟩ := b2.facts; clear v0 v1 v2 v3 v4 v5 q0 q1 q2))
  have tall := ((Touch.of_below (((below1 w _).trans (hb1.mono (by simp))).alloc (by omega) _)).trans ht2).trans ht4
  refine bodyPost_ret (v := .agg #[.int .u8 c, .string ts, .int .i64 ((p : Nat) : Int)]) (by simp [results, Tryz.results101, go_sem, y0, y1, y2]) rfl ⟨rfl, ?_⟩
  exact fin3 hlt.1 hlt.2 (Nat.le_refl _) tall z4 _ _ _
set_option maxHeartbeats 1000000 in
theorem name_res_b (h : Rz w rb tb cap l fv pv k d 0 a) (hsh : shapeL (l[k]'h.hk).2.data.toList = none) (hfu : ((l[k]'h.hk).2.toList == [102, 117, 110]) = true) :
    Calls Tryz.prog 101 #[.pointer (some ⟨rb, 0, none⟩)] w fun r w' => r = .returned (rtokV (l[k]'h.hk)) ∧ Touch (· = rb) w w' ∧ Rz w' rb tb cap l fv pv k d 2 (l[k]'h.hk).1.at_ := by
  have hlt := h.lt
  have hl := h.hl
  have hd := h.hd
  have hne1 := Nat.ne_of_lt hlt.1
  have hne2 := Nat.ne_of_lt hlt.2
  have cn := now_any (h.alloc zTok)
  have hk := h.hk
  have cf := forms_any (l[k]'h.hk).2
  rw [hsh] at cf
  clear hsh
  have hcv : rtokV (l[k]'h.hk) = .agg #[.int .u8 (tcode (l[k]'h.hk).1.k), .string (l[k]'h.hk).2, .int .i64 (((l[k]'h.hk).1.at_ : Nat) : Int)] := rfl
  have OVR : Aside (∀ (X : World) (e a : Nat), Rz X rb tb cap l fv pv k d e a → e ≠ 0 → Calls Tryz.prog 100 #[.pointer (some ⟨rb, 0, none⟩), .int .u8 97, .string ⟨#[]⟩] X fun r w' => r = .returned (rtokV (l[k]'h.hk)) ∧ Touch (· = rb) X w' ∧ Rz w' rb tb cap l fv pv k d e a) := fun X e a hz he => over_err hz he 97 ⟨#[]⟩
  generalize tcode (l[k]'h.hk).1.k = c at *
  generalize (l[k]'h.hk).2 = ts at *
  generalize (l[k]'h.hk).1.at_ = p at *
  generalize rtokV (l[k]'h.hk) = tv at *
  subst hcv
  go_enter Tryz.func101, Tryz.ntmps101
  go_wp2_with (first
    | (go_at_call 60; refine cn.mono ?_; rintro r w1 ⟨rfl, hb1⟩; have z1 := ((h.alloc zTok).below hb1).alloc (tokO c ts p); have b1 := ((Bx.new w).below hb1).below (below1 w1 (tokO c ts p)); have g1 := tokO_new w1 c ts p; obtain ⟨v0, v1, v2, v3, v4, v5⟩ := b1.facts; obtain ⟨q0, q1, q2⟩ := g1.facts; have z0 := hb1.size; simp at z0; have ne3 : rb ≠ w1.heap.size := (by omega); have ne4 : w.heap.size ≠ w1.heap.size := (by omega))
    | (go_at_call 146; refine (cf _).mono ?_; rintro r w9 ⟨rfl, rfl⟩; simp only [formsV])
    | (go_at_call 100; refine (OVR.out _ _ _ z2 (by decide)).mono ?_; rintro r w4 ⟨rfl, ht4, z4⟩; have b4 := b2.touch ht4 (Ne.symm hne1); obtain ⟨y0, y1, y2, y3, y4, y5⟩ := b4.facts; clear x0 x1 x2 x3 x4 x5)
    | (go_at_call 145; refine (wrong_set2 z1 p).mono ?_; rintro r w2 ⟨rfl, ht2, z2⟩; have b2 := b1.touch ht2 (Ne.symm hne1); obtain ⟨x0, x1, x2, x3, x4, x5⟩ := b2.facts; clear v0 v1 v2 v3 v4 v5 q0 q1 q2))
  have tall := ((Touch.of_below (((below1 w _).trans (hb1.mono (by simp))).alloc (by omega) _)).trans ht2).trans ht4
  refine bodyPost_ret (v := .agg #[.int .u8 c, .string ts, .int .i64 ((p : Nat) : Int)]) (by simp [results, Tryz.results101, go_sem, y0, y1, y2]) rfl ⟨rfl, ?_⟩
  exact fin3 hlt.1 hlt.2 (Nat.le_refl _) tall z4 _ _ _
set_option maxHeartbeats 1000000 in
theorem name_kind (h : Rz w rb tb cap l fv pv k d 0 a) (hsh : shapeL (l[k]'h.hk).2.data.toList = none) (hfu : ((l[k]'h.hk).2.toList == [102, 117, 110]) = false) (hkw : tcode (l[k]'h.hk).1.k ≠ 97) :
    Calls Tryz.prog 101 #[.pointer (some ⟨rb, 0, none⟩)] w fun r w' => r = .returned (rtokV (l[k]'h.hk)) ∧ Touch (· = rb) w w' ∧ Rz w' rb tb cap l fv pv k d 2 (l[k]'h.hk).1.at_ := by
  have hlt := h.lt
  have hl := h.hl
  have hd := h.hd
  have hne1 := Nat.ne_of_lt hlt.1
  have hne2 := Nat.ne_of_lt hlt.2
  have cn := now_any (h.alloc zTok)
  have hk := h.hk
  have cf := forms_any (l[k]'h.hk).2
  rw [hsh] at cf
  clear hsh
  have hcv : rtokV (l[k]'h.hk) = .agg #[.int .u8 (tcode (l[k]'h.hk).1.k), .string (l[k]'h.hk).2, .int .i64 (((l[k]'h.hk).1.at_ : Nat) : Int)] := rfl
  have OVR : Aside (∀ (X : World) (e a : Nat), Rz X rb tb cap l fv pv k d e a → e ≠ 0 → Calls Tryz.prog 100 #[.pointer (some ⟨rb, 0, none⟩), .int .u8 97, .string ⟨#[]⟩] X fun r w' => r = .returned (rtokV (l[k]'h.hk)) ∧ Touch (· = rb) X w' ∧ Rz w' rb tb cap l fv pv k d e a) := fun X e a hz he => over_err hz he 97 ⟨#[]⟩
  have OVK : Aside (∀ (X : World), Rz X rb tb cap l fv pv k d 0 a → Calls Tryz.prog 100 #[.pointer (some ⟨rb, 0, none⟩), .int .u8 97, .string ⟨#[]⟩] X fun r w' => r = .returned (rtokV (l[k]'h.hk)) ∧ Touch (· = rb) X w' ∧ Rz w' rb tb cap l fv pv k d 2 (l[k]'h.hk).1.at_) := fun X hz => over_kind hz 97 ⟨#[]⟩ hkw
  clear hkw
  generalize tcode (l[k]'h.hk).1.k = c at *
  generalize (l[k]'h.hk).2 = ts at *
  generalize (l[k]'h.hk).1.at_ = p at *
  generalize rtokV (l[k]'h.hk) = tv at *
  subst hcv
  go_enter Tryz.func101, Tryz.ntmps101
  go_wp2_with (first
    | (go_at_call 60; refine cn.mono ?_; rintro r w1 ⟨rfl, hb1⟩; have z1 := ((h.alloc zTok).below hb1).alloc (tokO c ts p); have b1 := ((Bx.new w).below hb1).below (below1 w1 (tokO c ts p)); have g1 := tokO_new w1 c ts p; obtain ⟨v0, v1, v2, v3, v4, v5⟩ := b1.facts; obtain ⟨q0, q1, q2⟩ := g1.facts; have z0 := hb1.size; simp at z0; have ne3 : rb ≠ w1.heap.size := (by omega); have ne4 : w.heap.size ≠ w1.heap.size := (by omega))
    | (go_at_call 146; refine (cf _).mono ?_; rintro r w9 ⟨rfl, rfl⟩; simp only [formsV])
    | (go_at_call 100; refine (OVK.out _ z1).mono ?_; rintro r w4 ⟨rfl, ht4, z4⟩; have b4 := b1.touch ht4 (Ne.symm hne1); obtain ⟨y0, y1, y2, y3, y4, y5⟩ := b4.facts; clear v0 v1 v2 v3 v4 v5 q0 q1 q2))
  have tall := (Touch.of_below (((below1 w _).trans (hb1.mono (by simp))).alloc (by omega) _)).trans ht4
  refine bodyPost_ret (v := .agg #[.int .u8 c, .string ts, .int .i64 ((p : Nat) : Int)]) (by simp [results, Tryz.results101, go_sem, y0, y1, y2]) rfl ⟨rfl, ?_⟩
  exact fin3 hlt.1 hlt.2 (Nat.le_refl _) tall z4 _ _ _
set_option maxHeartbeats 1000000 in
theorem name_word (h : Rz w rb tb cap l fv pv k d 0 a) (hsh : shapeL (l[k]'h.hk).2.data.toList = none) (hfu : ((l[k]'h.hk).2.toList == [102, 117, 110]) = false) (hkw : tcode (l[k]'h.hk).1.k = 97) (hn : k + 1 < l.length) :
    Calls Tryz.prog 101 #[.pointer (some ⟨rb, 0, none⟩)] w fun r w' => r = .returned (rtokV (l[k]'h.hk)) ∧ Touch (· = rb) w w' ∧ Rz w' rb tb cap l fv pv (k + 1) d 0 a := by
  have hlt := h.lt
  have hl := h.hl
  have hd := h.hd
  have hne1 := Nat.ne_of_lt hlt.1
  have hne2 := Nat.ne_of_lt hlt.2
  have cn := now_any (h.alloc zTok)
  have hk := h.hk
  have cf := forms_any (l[k]'h.hk).2
  rw [hsh] at cf
  clear hsh
  have hcv : rtokV (l[k]'h.hk) = .agg #[.int .u8 (tcode (l[k]'h.hk).1.k), .string (l[k]'h.hk).2, .int .i64 (((l[k]'h.hk).1.at_ : Nat) : Int)] := rfl
  have OVR : Aside (∀ (X : World) (e a : Nat), Rz X rb tb cap l fv pv k d e a → e ≠ 0 → Calls Tryz.prog 100 #[.pointer (some ⟨rb, 0, none⟩), .int .u8 97, .string ⟨#[]⟩] X fun r w' => r = .returned (rtokV (l[k]'h.hk)) ∧ Touch (· = rb) X w' ∧ Rz w' rb tb cap l fv pv k d e a) := fun X e a hz he => over_err hz he 97 ⟨#[]⟩
  have OVK : Aside (∀ (X : World), Rz X rb tb cap l fv pv k d 0 a → Calls Tryz.prog 100 #[.pointer (some ⟨rb, 0, none⟩), .int .u8 97, .string ⟨#[]⟩] X fun r w' => r = .returned (rtokV (l[k]'h.hk)) ∧ Touch (· = rb) X w' ∧ Rz w' rb tb cap l fv pv (k + 1) d 0 a) := fun X hz => over_word hz hkw hn
  clear hkw
  generalize tcode (l[k]'h.hk).1.k = c at *
  generalize (l[k]'h.hk).2 = ts at *
  generalize (l[k]'h.hk).1.at_ = p at *
  generalize rtokV (l[k]'h.hk) = tv at *
  subst hcv
  go_enter Tryz.func101, Tryz.ntmps101
  go_wp2_with (first
    | (go_at_call 60; refine cn.mono ?_; rintro r w1 ⟨rfl, hb1⟩; have z1 := ((h.alloc zTok).below hb1).alloc (tokO c ts p); have b1 := ((Bx.new w).below hb1).below (below1 w1 (tokO c ts p)); have g1 := tokO_new w1 c ts p; obtain ⟨v0, v1, v2, v3, v4, v5⟩ := b1.facts; obtain ⟨q0, q1, q2⟩ := g1.facts; have z0 := hb1.size; simp at z0; have ne3 : rb ≠ w1.heap.size := (by omega); have ne4 : w.heap.size ≠ w1.heap.size := (by omega))
    | (go_at_call 146; refine (cf _).mono ?_; rintro r w9 ⟨rfl, rfl⟩; simp only [formsV])
    | (go_at_call 100; refine (OVK.out _ z1).mono ?_; rintro r w4 ⟨rfl, ht4, z4⟩; have b4 := b1.touch ht4 (Ne.symm hne1); obtain ⟨y0, y1, y2, y3, y4, y5⟩ := b4.facts; clear v0 v1 v2 v3 v4 v5 q0 q1 q2))
  have tall := (Touch.of_below (((below1 w _).trans (hb1.mono (by simp))).alloc (by omega) _)).trans ht4
  refine bodyPost_ret (v := .agg #[.int .u8 c, .string ts, .int .i64 ((p : Nat) : Int)]) (by simp [results, Tryz.results101, go_sem, y0, y1, y2]) rfl ⟨rfl, ?_⟩
  exact fin3 hlt.1 hlt.2 (Nat.le_refl _) tall z4 _ _ _
theorem reserved_none {b : ByteArray} (h : reservedL b.data.toList = false) : shapeL b.data.toList = none ∧ (b.toList == [102, 117, 110]) = false := by
  simp only [reservedL, Bool.or_eq_false_iff] at h
  refine ⟨by simpa using h.1, ?_⟩
  rw [ByteArray.toList_eq]; exact h.2
/-- A name. -/
theorem rname_ok (h : Rz w rb tb cap l fv pv k d 0 a) (htx : TokTexts l) (hn : isNameT (l[k]'h.hk).1 = true) (hk1 : k + 1 < l.length) :
    Calls Tryz.prog 101 #[.pointer (some ⟨rb, 0, none⟩)] w fun r w' => r = .returned (rtokV (l[k]'h.hk)) ∧ Touch (· = rb) w w' ∧ Rz w' rb tb cap l fv pv (k + 1) d 0 a := by
  have hb := htx _ (List.getElem_mem h.hk)
  simp only [isNameT, Bool.and_eq_true, decide_eq_true_eq, Bool.not_eq_true'] at hn
  rw [← hb] at hn
  obtain ⟨h1, h2⟩ := reserved_none hn.2
  exact name_word h h1 h2 (by rw [hn.1]; rfl) hk1
/-- No name. -/
theorem rname_no (h : Rz w rb tb cap l fv pv k d 0 a) (htx : TokTexts l) (hn : isNameT (l[k]'h.hk).1 = false) :
    Calls Tryz.prog 101 #[.pointer (some ⟨rb, 0, none⟩)] w fun r w' => r = .returned (rtokV (l[k]'h.hk)) ∧ Touch (· = rb) w w' ∧ Rz w' rb tb cap l fv pv k d 2 (l[k]'h.hk).1.at_ := by
  have hb := htx _ (List.getElem_mem h.hk)
  cases hs : shapeL (l[k]'h.hk).2.data.toList with
  | some x => exact name_res_a h ⟨x, hs⟩
  | none =>
    cases hf : (l[k]'h.hk).2.toList == [102, 117, 110] with
    | true => exact name_res_b h hs hf
    | false =>
      refine name_kind h hs hf fun hc => ?_
      rw [tcode_word] at hc
      have hr : reservedL (l[k]'h.hk).1.body = false := by
        rw [← hb, reservedL, hs]
        rw [ByteArray.toList_eq] at hf
        rw [hf]; rfl
      simp [isNameT, hc, hr] at hn
end
end Go.Proofs.YtdiefbahmcihlaaGreatDoor
