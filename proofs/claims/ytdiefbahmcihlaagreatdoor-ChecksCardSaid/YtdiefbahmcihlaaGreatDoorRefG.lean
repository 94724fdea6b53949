/-
  The reference: expr.
-/
import Derived.Test.YtdiefbahmcihlaaGreatDoorRefF
namespace Go.Proofs.YtdiefbahmcihlaaGreatDoor
open Go.RowKit
attribute [local go_sem ↓] Go.wp_at_zero Go.wp_at_succ

section
variable {w : World} {base rb tb cap : Nat} {l : List (Tok × ByteArray)} {fv pv : Value} {k d e a : Nat} {ps : List PartV}
set_option maxRecDepth 8000 in
set_option maxHeartbeats 4000000 in
theorem expr_num (h : Rp w base rb tb cap l fv pv k d 0 a ps) (hwf : TokWF l) (hsz : ps.length + (l.length - k) ≤ 3000) (hct : (l[k]'h.z.hk).1.k = .num) :
    Calls Tryz.prog 102 #[.pointer (some ⟨rb, 0, none⟩)] w (xPost (.ok (.num (l[k]'h.z.hk).1.body) (toksAt l (k + 1))) base rb tb cap l fv pv k d a ps w) := by
  have hlt := h.z.lt
  have hl := h.z.hl
  have hd := h.z.hd
  have hne1 := Nat.ne_of_lt hlt.1
  have hne2 := Nat.ne_of_lt hlt.2
  have cn := now_any h.z
  have hk := h.z.hk
  have hn1 := hwf.more k hk (by rw [hct]; decide) (by rw [hct]; decide)
  have h2 := hwf.sz k hk
  have h0 := hwf.num k hk hct
  have htx := hwf.tx _ (List.getElem_mem hk)
  have cnu := fun W => number_any (l[k]'hk).2 W h0
  have hzn : Aside (numVal (l[k]'hk).2.data.toList = numVal (l[k]'hk).1.body) := by show _ = _; rw [htx]
  generalize hznq : numVal (l[k]'hk).2.data.toList = zn at *
  clear hznq
  have hkc : tcode (l[k]'hk).1.k = 49 := by rw [hct]; rfl
  have hcv : rtokV (l[k]'hk) = .agg #[.int .u8 49, .string (l[k]'hk).2, .int .i64 (((l[k]'hk).1.at_ : Nat) : Int)] := by rw [← hkc]
  obtain ⟨vad, vcap, hpv⟩ := owns_slice h.own
  subst hpv
  generalize (l[k]'hk).2 = ts at *
  generalize (l[k]'hk).1.at_ = p at *
  generalize rtokV (l[k]'hk) = tv at *
  subst hcv
  go_enter Tryz.func102, Tryz.ntmps102
  go_wp2_with (first
    | (go_at_call 60; refine cn.mono ?_; rintro r w1 ⟨rfl, hb1⟩; have r1 := (h.below hb1).alloc (tokO 49 ts p); have g1 := tokO_new w1 49 ts p; obtain ⟨q0, q1, q2⟩ := g1.facts; have z0 := hb1.size; have ne3 : rb ≠ w1.heap.size := (by omega); obtain ⟨c0, c1, c2, c3, c4, c5, c6⟩ := r1.z.cells; have f6 := r1.z.free 6)
    | (at_builtin; go_loud (obtain ⟨i0, hi, hz0, hz1, hz2⟩ := info_parts Tryz.infoPart; refine wpList_append_own_at _ rfl _ _ 136 rfl base 319 i0 _ 5 72 Tryz.underlying136 hi hz0 hz1 hz2 rfl (by decide) _ _ _ rfl (r1.own.alloc _) ⟨w1.heap.size + 1, 0, none⟩ 1 1 [.string ⟨#[]⟩, .int .i64 0, .string ⟨#[]⟩, .int .i64 0, .slice none 0 0] rfl rfl (cell_five_new2 w1 _ _ _ _ _ _ _) (fun x hx => by simp at hx; rcases hx with h | h | h | h | h <;> (subst h; rfl)) (by unfold maxLen; omega) (by omega) (by simp; have := h.hb; omega) ?_; intro v' w3 hown' hgrow hnil hat; clear hi hz0 hz1 hz2; obtain ⟨ad3, cap3, rfl⟩ := owns_slice hown'; obtain ⟨z3, r4⟩ := (r1.alloc _).app hown' hgrow hat; have g3 := g1.below2 hgrow (fun g hg => (h.below hb1).lt.2.2 g hg |>.2); obtain ⟨s0, s1, s2⟩ := g3.facts; obtain ⟨d0, d1, d2, d3, d4, d5, d6⟩ := z3.cells; have h6 := z3.free 6; have zz := hgrow.size; simp at zz; have ne5 : w1.heap.size ≠ w3.heap.size := (by omega); have ne6 : rb ≠ w3.heap.size := (by omega); have hconv := conv_one (w3.setCell ⟨rb, 6, none⟩ (.slice ad3 (ps.length + 1) cap3)) 49 w3.heap.size (by simp); have g4 := g3.touch (rb := rb) ((Touch.refl (· = rb) w3).setCell (p := ⟨rb, 6, none⟩) (Or.inl rfl) (.slice ad3 (ps.length + 1) cap3)) (Ne.symm ne3); have g5 := g4.below (below1 _ (.cells #[.int .u8 49] 5)); have g6 := g5.below (below1 _ (.cells #[.string (oneB 49), .int .i64 0, .string ⟨#[]⟩, .int .i64 ((p : Nat) : Int), .slice none 0 0] 319)); obtain ⟨k0, k1, k2⟩ := g5.facts; obtain ⟨m0, m1, m2⟩ := g6.facts; clear q0 q1 q2 c0 c1 c2 c3 c4 c5 c6 f6))
    | (go_at_call 147; refine (cnu _).mono ?_; rintro r w9 ⟨rfl, rfl⟩)
    | (go_at_call 100; refine (over_num ((r4.alloc _).alloc _).z hkc hn1).mono ?_; rintro r w5 ⟨rfl, ht5, z5⟩; generalize rtokV (l[k]'hk) = tvv))
  have rW := ((r4.alloc _).alloc _).touch ht5 z5
  have px := (Px.new ((w3.setCell ⟨rb, 6, none⟩ (.slice ad3 (ps.length + 1) cap3)).alloc (.cells #[.int .u8 49] 5)) ⟨(oneB 49), zn, ⟨#[]⟩, p, (.slice none 0 0)⟩ (B := w3.heap.size + 1) (by simp)).touch ht5 (by show ¬ (w3.heap.size + 1 = rb); omega)
  have hTW : Touch (fun g => g = rb ∨ some g = (Value.slice vad ps.length vcap).ownBlock) w w5 := (((touch_app hb1 hgrow hlt.1).alloc _).alloc _).trans (ht5.mono fun g hg => Or.inl hg)
  have mv := moved_app (w := w) hat (by simp; omega)
  obtain ⟨gb, rfl, hq, hc1, hc2, nb1, hgb, e6, ⟨y0, y1, y2, y3, y4, t0, t1, t2, t3, t4⟩, fr⟩ := tail_facts rW ps.length (by simp)
  have hgb3 := (hown'.lt gb rfl).2
  have nb2 : w3.heap.size + 1 ≠ gb := by omega
  have nb3 : gb ≠ rb := Ne.symm nb1
  have nb4 : gb ≠ w3.heap.size + 1 := by omega
  obtain ⟨o0, o1, o2, o3, o4⟩ := px.facts
  have fr0 := fr (ps.length * 5)
  have fr1 := fr (ps.length * 5 + 1)
  have fr2 := fr (ps.length * 5 + 2)
  have fr3 := fr (ps.length * 5 + 3)
  have fr4 := fr (ps.length * 5 + 4)
  have FIN : Aside (xPost (.ok (.num (l[k]'hk).1.body) (toksAt l (k + 1))) base rb tb cap l fv (.slice vad ps.length vcap) k d a ps w (.returned (.int .i64 ((ps.length : Nat) : Int))) (put5 w5 gb ps.length ⟨(oneB 49), zn, ⟨#[]⟩, p, (.slice none 0 0)⟩)) := close_leaf (p := ⟨(oneB 49), zn, ⟨#[]⟩, p, (.slice none 0 0)⟩) hTW rW mv (Nat.lt_succ_self k) hk (fun W D => by rw [RepP]; exact ⟨Nat.le_refl _, _, by rw [List.getElem?_append_right (Nat.le_refl _)]; simp; rfl, rfl, hzn.out, rfl⟩)
  clear rW px hTW mv hat hown' hgrow hnil hconv k0 k1 k2 m0 m1 m2 s0 s1 s2 d0 d1 d2 d3 d4 d5 d6 fr g1 g3 g4 g5 g6 r4 r1 z3 h6 hwf cn hb1 hq z5 ht5
  unfold maxLen at hc2
  generalize w5 = W at *
  have hiA : (0 : Int) ≤ ((ps.length : Nat) : Int) := by omega
  have hiB : ((ps.length : Nat) : Int) < ((ps.length + 1 : Nat) : Int) := by omega
  have hiC : ((ps.length : Nat) : Int) < (ps.length : Int) + 1 := by omega
  go_region_held3 (fun w' => w'.cell? ⟨rb, 6, none⟩ = some (.slice (some ⟨gb, 0, none⟩) (ps.length + 1) cap3) ∧ w'.cell? ⟨w3.heap.size + 1, 0, none⟩ = some (.string (oneB 49)) ∧ w'.cell? ⟨w3.heap.size + 1, 1, none⟩ = some (.int .i64 zn) ∧ w'.cell? ⟨w3.heap.size + 1, 2, none⟩ = some (.string ⟨#[]⟩) ∧ w'.cell? ⟨w3.heap.size + 1, 3, none⟩ = some (.int .i64 ((p : Nat) : Int)) ∧ w'.cell? ⟨w3.heap.size + 1, 4, none⟩ = some (.slice none 0 0)) (go_keep) (fail)
  all_goals go_wp2
  go_ret
  first
    | exact FIN.out
    | exact xPost_drew FIN.out
set_option maxRecDepth 8000 in
set_option maxHeartbeats 4000000 in
theorem expr_txt (h : Rp w base rb tb cap l fv pv k d 0 a ps) (hwf : TokWF l) (hsz : ps.length + (l.length - k) ≤ 3000) (hct : (l[k]'h.z.hk).1.k = .txt) :
    Calls Tryz.prog 102 #[.pointer (some ⟨rb, 0, none⟩)] w (xPost (.ok (.txt (innerL (l[k]'h.z.hk).1.body)) (toksAt l (k + 1))) base rb tb cap l fv pv k d a ps w) := by
  have hlt := h.z.lt
  have hl := h.z.hl
  have hd := h.z.hd
  have hne1 := Nat.ne_of_lt hlt.1
  have hne2 := Nat.ne_of_lt hlt.2
  have cn := now_any h.z
  have hk := h.z.hk
  have hn1 := hwf.more k hk (by rw [hct]; decide) (by rw [hct]; decide)
  have h2 := hwf.sz k hk
  have h0 := hwf.txt k hk hct
  have htx := hwf.tx _ (List.getElem_mem hk)
  have hin : ((l[k]'hk).2.extract 1 ((l[k]'hk).2.size - 1)).data.toList = innerL (l[k]'hk).1.body := by rw [← htx]; exact inner_extract _
  have hkc : tcode (l[k]'hk).1.k = 39 := by rw [hct]; rfl
  have hcv : rtokV (l[k]'hk) = .agg #[.int .u8 39, .string (l[k]'hk).2, .int .i64 (((l[k]'hk).1.at_ : Nat) : Int)] := by rw [← hkc]
  obtain ⟨vad, vcap, hpv⟩ := owns_slice h.own
  subst hpv
  generalize (l[k]'hk).2 = ts at *
  generalize (l[k]'hk).1.at_ = p at *
  generalize rtokV (l[k]'hk) = tv at *
  subst hcv
  go_enter Tryz.func102, Tryz.ntmps102
  go_wp2_with (first
    | (go_at_call 60; refine cn.mono ?_; rintro r w1 ⟨rfl, hb1⟩; have r1 := (h.below hb1).alloc (tokO 39 ts p); have g1 := tokO_new w1 39 ts p; obtain ⟨q0, q1, q2⟩ := g1.facts; have z0 := hb1.size; have ne3 : rb ≠ w1.heap.size := (by omega); obtain ⟨c0, c1, c2, c3, c4, c5, c6⟩ := r1.z.cells; have f6 := r1.z.free 6)
    | (at_builtin; go_loud (obtain ⟨i0, hi, hz0, hz1, hz2⟩ := info_parts Tryz.infoPart; refine wpList_append_own_at _ rfl _ _ 136 rfl base 319 i0 _ 5 72 Tryz.underlying136 hi hz0 hz1 hz2 rfl (by decide) _ _ _ rfl (r1.own.alloc _) ⟨w1.heap.size + 1, 0, none⟩ 1 1 [.string ⟨#[]⟩, .int .i64 0, .string ⟨#[]⟩, .int .i64 0, .slice none 0 0] rfl rfl (cell_five_new2 w1 _ _ _ _ _ _ _) (fun x hx => by simp at hx; rcases hx with h | h | h | h | h <;> (subst h; rfl)) (by unfold maxLen; omega) (by omega) (by simp; have := h.hb; omega) ?_; intro v' w3 hown' hgrow hnil hat; clear hi hz0 hz1 hz2; obtain ⟨ad3, cap3, rfl⟩ := owns_slice hown'; obtain ⟨z3, r4⟩ := (r1.alloc _).app hown' hgrow hat; have g3 := g1.below2 hgrow (fun g hg => (h.below hb1).lt.2.2 g hg |>.2); obtain ⟨s0, s1, s2⟩ := g3.facts; obtain ⟨d0, d1, d2, d3, d4, d5, d6⟩ := z3.cells; have h6 := z3.free 6; have zz := hgrow.size; simp at zz; have ne5 : w1.heap.size ≠ w3.heap.size := (by omega); have ne6 : rb ≠ w3.heap.size := (by omega); have hconv := conv_one (w3.setCell ⟨rb, 6, none⟩ (.slice ad3 (ps.length + 1) cap3)) 39 w3.heap.size (by simp); have g4 := g3.touch (rb := rb) ((Touch.refl (· = rb) w3).setCell (p := ⟨rb, 6, none⟩) (Or.inl rfl) (.slice ad3 (ps.length + 1) cap3)) (Ne.symm ne3); have g5 := g4.below (below1 _ (.cells #[.int .u8 39] 5)); have g6 := g5.below (below1 _ (.cells #[.string (oneB 39), .int .i64 0, .string ⟨#[]⟩, .int .i64 ((p : Nat) : Int), .slice none 0 0] 319)); obtain ⟨k0, k1, k2⟩ := g5.facts; obtain ⟨m0, m1, m2⟩ := g6.facts; clear q0 q1 q2 c0 c1 c2 c3 c4 c5 c6 f6))
    | (go_at_call 100; refine (over_txt ((r4.alloc _).alloc _).z hkc hn1).mono ?_; rintro r w5 ⟨rfl, ht5, z5⟩; generalize rtokV (l[k]'hk) = tvv))
  have rW := ((r4.alloc _).alloc _).touch ht5 z5
  have px := (Px.new ((w3.setCell ⟨rb, 6, none⟩ (.slice ad3 (ps.length + 1) cap3)).alloc (.cells #[.int .u8 39] 5)) ⟨(oneB 39), 0, (ts.extract 1 (ts.size - 1)), p, (.slice none 0 0)⟩ (B := w3.heap.size + 1) (by simp)).touch ht5 (by show ¬ (w3.heap.size + 1 = rb); omega)
  have hTW : Touch (fun g => g = rb ∨ some g = (Value.slice vad ps.length vcap).ownBlock) w w5 := (((touch_app hb1 hgrow hlt.1).alloc _).alloc _).trans (ht5.mono fun g hg => Or.inl hg)
  have mv := moved_app (w := w) hat (by simp; omega)
  obtain ⟨gb, rfl, hq, hc1, hc2, nb1, hgb, e6, ⟨y0, y1, y2, y3, y4, t0, t1, t2, t3, t4⟩, fr⟩ := tail_facts rW ps.length (by simp)
  have hgb3 := (hown'.lt gb rfl).2
  have nb2 : w3.heap.size + 1 ≠ gb := by omega
  have nb3 : gb ≠ rb := Ne.symm nb1
  have nb4 : gb ≠ w3.heap.size + 1 := by omega
  obtain ⟨o0, o1, o2, o3, o4⟩ := px.facts
  have fr0 := fr (ps.length * 5)
  have fr1 := fr (ps.length * 5 + 1)
  have fr2 := fr (ps.length * 5 + 2)
  have fr3 := fr (ps.length * 5 + 3)
  have fr4 := fr (ps.length * 5 + 4)
  have FIN : Aside (xPost (.ok (.txt (innerL (l[k]'hk).1.body)) (toksAt l (k + 1))) base rb tb cap l fv (.slice vad ps.length vcap) k d a ps w (.returned (.int .i64 ((ps.length : Nat) : Int))) (put5 w5 gb ps.length ⟨(oneB 39), 0, (ts.extract 1 (ts.size - 1)), p, (.slice none 0 0)⟩)) := close_leaf (p := ⟨(oneB 39), 0, (ts.extract 1 (ts.size - 1)), p, (.slice none 0 0)⟩) hTW rW mv (Nat.lt_succ_self k) hk (fun W D => by rw [RepP]; exact ⟨Nat.le_refl _, _, by rw [List.getElem?_append_right (Nat.le_refl _)]; simp; rfl, rfl, hin, rfl⟩)
  clear rW px hTW mv hat hown' hgrow hnil hconv k0 k1 k2 m0 m1 m2 s0 s1 s2 d0 d1 d2 d3 d4 d5 d6 fr g1 g3 g4 g5 g6 r4 r1 z3 h6 hwf cn hb1 hq z5 ht5
  unfold maxLen at hc2
  generalize w5 = W at *
  have hiA : (0 : Int) ≤ ((ps.length : Nat) : Int) := by omega
  have hiB : ((ps.length : Nat) : Int) < ((ps.length + 1 : Nat) : Int) := by omega
  have hiC : ((ps.length : Nat) : Int) < (ps.length : Int) + 1 := by omega
  go_region_held3 (fun w' => w'.cell? ⟨rb, 6, none⟩ = some (.slice (some ⟨gb, 0, none⟩) (ps.length + 1) cap3) ∧ w'.cell? ⟨w3.heap.size + 1, 0, none⟩ = some (.string (oneB 39)) ∧ w'.cell? ⟨w3.heap.size + 1, 1, none⟩ = some (.int .i64 0) ∧ w'.cell? ⟨w3.heap.size + 1, 2, none⟩ = some (.string (ts.extract 1 (ts.size - 1))) ∧ w'.cell? ⟨w3.heap.size + 1, 3, none⟩ = some (.int .i64 ((p : Nat) : Int)) ∧ w'.cell? ⟨w3.heap.size + 1, 4, none⟩ = some (.slice none 0 0)) (go_keep) (fail)
  all_goals go_wp2
  go_ret
  first
    | exact FIN.out
    | exact xPost_drew FIN.out
set_option maxRecDepth 8000 in
set_option maxHeartbeats 4000000 in
theorem expr_name (h : Rp w base rb tb cap l fv pv k d 0 a ps) (hwf : TokWF l) (hsz : ps.length + (l.length - k) ≤ 3000) (hct : (l[k]'h.z.hk).1.k = .word) (hnm : isNameT (l[k]'h.z.hk).1 = true) :
    Calls Tryz.prog 102 #[.pointer (some ⟨rb, 0, none⟩)] w (xPost (.ok (.var (l[k]'h.z.hk).1.body (l[k]'h.z.hk).1.at_) (toksAt l (k + 1))) base rb tb cap l fv pv k d a ps w) := by
  have hlt := h.z.lt
  have hl := h.z.hl
  have hd := h.z.hd
  have hne1 := Nat.ne_of_lt hlt.1
  have hne2 := Nat.ne_of_lt hlt.2
  have cn := now_any h.z
  have hk := h.z.hk
  have hn1 := hwf.more k hk (by rw [hct]; decide) (by rw [hct]; decide)
  have h2 := hwf.sz k hk
  have htx := hwf.tx _ (List.getElem_mem hk)
  have cnm : ∀ (X : World) (pv : Value), Rz X rb tb cap l fv pv k d 0 a → Calls Tryz.prog 101 #[.pointer (some ⟨rb, 0, none⟩)] X fun r w' => r = .returned (rtokV (l[k]'hk)) ∧ Touch (· = rb) X w' ∧ Rz w' rb tb cap l fv pv (k + 1) d 0 a := fun X pv hz => rname_ok hz hwf.tx hnm hn1
  have hkc : tcode (l[k]'hk).1.k = 97 := by rw [hct]; rfl
  have hcv : rtokV (l[k]'hk) = .agg #[.int .u8 97, .string (l[k]'hk).2, .int .i64 (((l[k]'hk).1.at_ : Nat) : Int)] := by rw [← hkc]
  obtain ⟨vad, vcap, hpv⟩ := owns_slice h.own
  subst hpv
  generalize (l[k]'hk).2 = ts at *
  generalize (l[k]'hk).1.at_ = p at *
  generalize rtokV (l[k]'hk) = tv at *
  subst hcv
  go_enter Tryz.func102, Tryz.ntmps102
  go_wp2_with (first
    | (go_at_call 60; refine cn.mono ?_; rintro r w1 ⟨rfl, hb1⟩; have r1 := (h.below hb1).alloc (tokO 97 ts p); have g1 := tokO_new w1 97 ts p; obtain ⟨q0, q1, q2⟩ := g1.facts; have z0 := hb1.size; have ne3 : rb ≠ w1.heap.size := (by omega); obtain ⟨c0, c1, c2, c3, c4, c5, c6⟩ := r1.z.cells; have f6 := r1.z.free 6)
    | (at_builtin; go_loud (obtain ⟨i0, hi, hz0, hz1, hz2⟩ := info_parts Tryz.infoPart; refine wpList_append_own_at _ rfl _ _ 136 rfl base 319 i0 _ 5 72 Tryz.underlying136 hi hz0 hz1 hz2 rfl (by decide) _ _ _ rfl (r1.own.alloc _) ⟨w1.heap.size + 1, 0, none⟩ 1 1 [.string ⟨#[]⟩, .int .i64 0, .string ⟨#[]⟩, .int .i64 0, .slice none 0 0] rfl rfl (cell_five_new2 w1 _ _ _ _ _ _ _) (fun x hx => by simp at hx; rcases hx with h | h | h | h | h <;> (subst h; rfl)) (by unfold maxLen; omega) (by omega) (by simp; have := h.hb; omega) ?_; intro v' w3 hown' hgrow hnil hat; clear hi hz0 hz1 hz2; obtain ⟨ad3, cap3, rfl⟩ := owns_slice hown'; obtain ⟨z3, r4⟩ := (r1.alloc _).app hown' hgrow hat; have g3 := g1.below2 hgrow (fun g hg => (h.below hb1).lt.2.2 g hg |>.2); obtain ⟨s0, s1, s2⟩ := g3.facts; obtain ⟨d0, d1, d2, d3, d4, d5, d6⟩ := z3.cells; have h6 := z3.free 6; have zz := hgrow.size; simp at zz; have ne5 : w1.heap.size ≠ w3.heap.size := (by omega); have ne6 : rb ≠ w3.heap.size := (by omega); have hconv := conv_one (w3.setCell ⟨rb, 6, none⟩ (.slice ad3 (ps.length + 1) cap3)) 97 w3.heap.size (by simp); have g4 := g3.touch (rb := rb) ((Touch.refl (· = rb) w3).setCell (p := ⟨rb, 6, none⟩) (Or.inl rfl) (.slice ad3 (ps.length + 1) cap3)) (Ne.symm ne3); have g5 := g4.below (below1 _ (.cells #[.int .u8 97] 5)); have g6 := g5.below (below1 _ (.cells #[.string (oneB 97), .int .i64 0, .string ⟨#[]⟩, .int .i64 ((p : Nat) : Int), .slice none 0 0] 319)); obtain ⟨k0, k1, k2⟩ := g5.facts; obtain ⟨m0, m1, m2⟩ := g6.facts; clear q0 q1 q2 c0 c1 c2 c3 c4 c5 c6 f6))
    | (go_at_call 101; go_loud (refine (cnm _ _ ((r4.alloc _).alloc _).z).mono ?_; rintro r w5 ⟨rfl, ht5, z5⟩; have px5 := (Px.new ((w3.setCell ⟨rb, 6, none⟩ (.slice ad3 (ps.length + 1) cap3)).alloc (.cells #[.int .u8 97] 5)) ⟨(oneB 97), 0, ⟨#[]⟩, p, (.slice none 0 0)⟩ (B := w3.heap.size + 1) (by simp)).touch ht5 (by show ¬ (w3.heap.size + 1 = rb); omega); have gg := px5.below (below1 w5 (tokO 97 ts p)); have gf := gg.free 2; have sz5 := ht5.size; simp at sz5; have ne8 : w3.heap.size + 1 ≠ w5.heap.size := (by omega); have ne9 : w5.heap.size ≠ w3.heap.size + 1 := (by omega); obtain ⟨n0, n1, n2, n3, n4⟩ := gg.facts; obtain ⟨j0, j1, j2⟩ := (tokO_new w5 97 ts p).facts)))
  have rW := (((((r4.alloc _).alloc _).touch ht5 z5).alloc (tokO 97 ts p)).other (B := w3.heap.size + 1) (Nat.ne_of_lt (by have := hlt.1; omega)) (Nat.ne_of_lt (by have := hlt.2; omega)) (fun e => by have := (hown'.lt _ e.symm).2; omega) 2 (.string ts))
  have px := gg.setS ts
  have hTW : Touch (fun g => g = rb ∨ some g = (Value.slice vad ps.length vcap).ownBlock) w ((w5.alloc (tokO 97 ts p)).setCell ⟨w3.heap.size + 1, 2, none⟩ (.string ts)) := (((((touch_app hb1 hgrow hlt.1).alloc _).alloc _).trans (ht5.mono fun g hg => Or.inl hg)).alloc (tokO 97 ts p)).setCell (p := ⟨w3.heap.size + 1, 2, none⟩) (Or.inr (by show w.heap.size ≤ w3.heap.size + 1; omega)) _
  have mv := moved_app (w := w) hat (by simp; omega)
  obtain ⟨gb, rfl, hq, hc1, hc2, nb1, hgb, e6, ⟨y0, y1, y2, y3, y4, t0, t1, t2, t3, t4⟩, fr⟩ := tail_facts rW ps.length (by simp)
  have hgb3 := (hown'.lt gb rfl).2
  have nb2 : w3.heap.size + 1 ≠ gb := by omega
  have nb3 : gb ≠ rb := Ne.symm nb1
  have nb4 : gb ≠ w3.heap.size + 1 := by omega
  obtain ⟨o0, o1, o2, o3, o4⟩ := px.facts
  have fr0 := fr (ps.length * 5)
  have fr1 := fr (ps.length * 5 + 1)
  have fr2 := fr (ps.length * 5 + 2)
  have fr3 := fr (ps.length * 5 + 3)
  have fr4 := fr (ps.length * 5 + 4)
  have FIN : Aside (xPost (.ok (.var (l[k]'hk).1.body p) (toksAt l (k + 1))) base rb tb cap l fv (.slice vad ps.length vcap) k d a ps w (.returned (.int .i64 ((ps.length : Nat) : Int))) (put5 ((w5.alloc (tokO 97 ts p)).setCell ⟨w3.heap.size + 1, 2, none⟩ (.string ts)) gb ps.length ⟨(oneB 97), 0, ts, p, (.slice none 0 0)⟩)) := close_leaf (p := ⟨(oneB 97), 0, ts, p, (.slice none 0 0)⟩) hTW rW mv (Nat.lt_succ_self k) hk (fun W D => by rw [RepP]; exact ⟨Nat.le_refl _, _, by rw [List.getElem?_append_right (Nat.le_refl _)]; simp; rfl, rfl, htx, rfl, rfl⟩)
  clear rW px hTW mv hat hown' hgrow hnil hconv k0 k1 k2 m0 m1 m2 s0 s1 s2 d0 d1 d2 d3 d4 d5 d6 fr g1 g3 g4 g5 g6 r4 r1 z3 h6 hwf cn hb1 hq z5 ht5 px5 gg gf n0 n1 n2 n3 n4 j0 j1 j2 cnm
  unfold maxLen at hc2
  generalize ((w5.alloc (tokO 97 ts p)).setCell ⟨w3.heap.size + 1, 2, none⟩ (.string ts)) = W at *
  have hiA : (0 : Int) ≤ ((ps.length : Nat) : Int) := by omega
  have hiB : ((ps.length : Nat) : Int) < ((ps.length + 1 : Nat) : Int) := by omega
  have hiC : ((ps.length : Nat) : Int) < (ps.length : Int) + 1 := by omega
  go_region_held3 (fun w' => w'.cell? ⟨rb, 6, none⟩ = some (.slice (some ⟨gb, 0, none⟩) (ps.length + 1) cap3) ∧ w'.cell? ⟨w3.heap.size + 1, 0, none⟩ = some (.string (oneB 97)) ∧ w'.cell? ⟨w3.heap.size + 1, 1, none⟩ = some (.int .i64 0) ∧ w'.cell? ⟨w3.heap.size + 1, 2, none⟩ = some (.string ts) ∧ w'.cell? ⟨w3.heap.size + 1, 3, none⟩ = some (.int .i64 ((p : Nat) : Int)) ∧ w'.cell? ⟨w3.heap.size + 1, 4, none⟩ = some (.slice none 0 0)) (go_keep) (fail)
  all_goals go_wp2
  go_ret
  first
    | exact FIN.out
    | exact xPost_drew FIN.out
set_option maxRecDepth 8000 in
set_option maxHeartbeats 4000000 in
theorem expr_noname (h : Rp w base rb tb cap l fv pv k d 0 a ps) (hwf : TokWF l) (hsz : ps.length + (l.length - k) ≤ 3000) (c : Int) (hct : tcode (l[k]'h.z.hk).1.k = c) (m1 : (c == 49) = false) (m2 : (c == 39) = false) (m3 : (c == 40) = false) (hnm : isNameT (l[k]'h.z.hk).1 = false) :
    Calls Tryz.prog 102 #[.pointer (some ⟨rb, 0, none⟩)] w (xPost (.err 2 (l[k]'h.z.hk).1.at_) base rb tb cap l fv pv k d a ps w) := by
  have hlt := h.z.lt
  have hl := h.z.hl
  have hd := h.z.hd
  have hne1 := Nat.ne_of_lt hlt.1
  have hne2 := Nat.ne_of_lt hlt.2
  have cn := now_any h.z
  have hk := h.z.hk
  have hcv : rtokV (l[k]'hk) = .agg #[.int .u8 c, .string (l[k]'hk).2, .int .i64 (((l[k]'hk).1.at_ : Nat) : Int)] := by rw [← hct]
  have cnm : ∀ (X : World) (pv : Value), Rz X rb tb cap l fv pv k d 0 a → Calls Tryz.prog 101 #[.pointer (some ⟨rb, 0, none⟩)] X fun r w' => r = .returned (rtokV (l[k]'hk)) ∧ Touch (· = rb) X w' ∧ Rz w' rb tb cap l fv pv k d 2 (l[k]'hk).1.at_ := fun X pv hz => rname_no hz hwf.tx hnm
  obtain ⟨vad, vcap, hpv⟩ := owns_slice h.own
  subst hpv
  generalize (l[k]'hk).2 = ts at *
  generalize (l[k]'hk).1.at_ = p at *
  generalize rtokV (l[k]'hk) = tv at *
  subst hcv
  go_enter Tryz.func102, Tryz.ntmps102
  go_wp2_with (first
    | (go_at_call 60; refine cn.mono ?_; rintro r w1 ⟨rfl, hb1⟩; have r1 := (h.below hb1).alloc (tokO c ts p); have g1 := tokO_new w1 c ts p; obtain ⟨q0, q1, q2⟩ := g1.facts; have z0 := hb1.size; have ne3 : rb ≠ w1.heap.size := (by omega); obtain ⟨c0, c1, c2, c3, c4, c5, c6⟩ := r1.z.cells; have f6 := r1.z.free 6)
    | (at_builtin; go_loud (obtain ⟨i0, hi, hz0, hz1, hz2⟩ := info_parts Tryz.infoPart; refine wpList_append_own_at _ rfl _ _ 136 rfl base 319 i0 _ 5 72 Tryz.underlying136 hi hz0 hz1 hz2 rfl (by decide) _ _ _ rfl (r1.own.alloc _) ⟨w1.heap.size + 1, 0, none⟩ 1 1 [.string ⟨#[]⟩, .int .i64 0, .string ⟨#[]⟩, .int .i64 0, .slice none 0 0] rfl rfl (cell_five_new2 w1 _ _ _ _ _ _ _) (fun x hx => by simp at hx; rcases hx with h | h | h | h | h <;> (subst h; rfl)) (by unfold maxLen; omega) (by omega) (by simp; have := h.hb; omega) ?_; intro v' w3 hown' hgrow hnil hat; clear hi hz0 hz1 hz2; obtain ⟨ad3, cap3, rfl⟩ := owns_slice hown'; obtain ⟨z3, r4⟩ := (r1.alloc _).app hown' hgrow hat; have g3 := g1.below2 hgrow (fun g hg => (h.below hb1).lt.2.2 g hg |>.2); obtain ⟨s0, s1, s2⟩ := g3.facts; obtain ⟨d0, d1, d2, d3, d4, d5, d6⟩ := z3.cells; have h6 := z3.free 6; have zz := hgrow.size; simp at zz; have ne5 : w1.heap.size ≠ w3.heap.size := (by omega); have ne6 : rb ≠ w3.heap.size := (by omega); have hconv := conv_one (w3.setCell ⟨rb, 6, none⟩ (.slice ad3 (ps.length + 1) cap3)) c w3.heap.size (by simp); have g4 := g3.touch (rb := rb) ((Touch.refl (· = rb) w3).setCell (p := ⟨rb, 6, none⟩) (Or.inl rfl) (.slice ad3 (ps.length + 1) cap3)) (Ne.symm ne3); have g5 := g4.below (below1 _ (.cells #[.int .u8 c] 5)); have g6 := g5.below (below1 _ (.cells #[.string (oneB c), .int .i64 0, .string ⟨#[]⟩, .int .i64 ((p : Nat) : Int), .slice none 0 0] 319)); obtain ⟨k0, k1, k2⟩ := g5.facts; obtain ⟨m0, m1, m2⟩ := g6.facts; clear q0 q1 q2 c0 c1 c2 c3 c4 c5 c6 f6))
    | (go_at_call 101; go_loud (refine (cnm _ _ ((r4.alloc _).alloc _).z).mono ?_; rintro r w5 ⟨rfl, ht5, z5⟩; have px5 := (Px.new ((w3.setCell ⟨rb, 6, none⟩ (.slice ad3 (ps.length + 1) cap3)).alloc (.cells #[.int .u8 c] 5)) ⟨(oneB c), 0, ⟨#[]⟩, p, (.slice none 0 0)⟩ (B := w3.heap.size + 1) (by simp)).touch ht5 (by show ¬ (w3.heap.size + 1 = rb); omega); have gg := px5.below (below1 w5 (tokO c ts p)); have gf := gg.free 2; have sz5 := ht5.size; simp at sz5; have ne8 : w3.heap.size + 1 ≠ w5.heap.size := (by omega); have ne9 : w5.heap.size ≠ w3.heap.size + 1 := (by omega); obtain ⟨n0, n1, n2, n3, n4⟩ := gg.facts; obtain ⟨j0, j1, j2⟩ := (tokO_new w5 c ts p).facts)))
  have rW := (((((r4.alloc _).alloc _).touch ht5 z5).alloc (tokO c ts p)).other (B := w3.heap.size + 1) (Nat.ne_of_lt (by have := hlt.1; omega)) (Nat.ne_of_lt (by have := hlt.2; omega)) (fun e => by have := (hown'.lt _ e.symm).2; omega) 2 (.string ts))
  have px := gg.setS ts
  have hTW : Touch (fun g => g = rb ∨ some g = (Value.slice vad ps.length vcap).ownBlock) w ((w5.alloc (tokO c ts p)).setCell ⟨w3.heap.size + 1, 2, none⟩ (.string ts)) := (((((touch_app hb1 hgrow hlt.1).alloc _).alloc _).trans (ht5.mono fun g hg => Or.inl hg)).alloc (tokO c ts p)).setCell (p := ⟨w3.heap.size + 1, 2, none⟩) (Or.inr (by show w.heap.size ≤ w3.heap.size + 1; omega)) _
  have mv := moved_app (w := w) hat (by simp; omega)
  obtain ⟨gb, rfl, hq, hc1, hc2, nb1, hgb, e6, ⟨y0, y1, y2, y3, y4, t0, t1, t2, t3, t4⟩, fr⟩ := tail_facts rW ps.length (by simp)
  have hgb3 := (hown'.lt gb rfl).2
  have nb2 : w3.heap.size + 1 ≠ gb := by omega
  have nb3 : gb ≠ rb := Ne.symm nb1
  have nb4 : gb ≠ w3.heap.size + 1 := by omega
  obtain ⟨o0, o1, o2, o3, o4⟩ := px.facts
  have fr0 := fr (ps.length * 5)
  have fr1 := fr (ps.length * 5 + 1)
  have fr2 := fr (ps.length * 5 + 2)
  have fr3 := fr (ps.length * 5 + 3)
  have fr4 := fr (ps.length * 5 + 4)
  have FIN : Aside (xPost (.err 2 p) base rb tb cap l fv (.slice vad ps.length vcap) k d a ps w (.returned (.int .i64 ((ps.length : Nat) : Int))) (put5 ((w5.alloc (tokO c ts p)).setCell ⟨w3.heap.size + 1, 2, none⟩ (.string ts)) gb ps.length ⟨(oneB c), 0, ts, p, (.slice none 0 0)⟩)) := close_err (p := ⟨(oneB c), 0, ts, p, (.slice none 0 0)⟩) hTW rW mv (by simp) (by decide)
  clear rW px hTW mv hat hown' hgrow hnil hconv k0 k1 k2 m0 m1 m2 s0 s1 s2 d0 d1 d2 d3 d4 d5 d6 fr g1 g3 g4 g5 g6 r4 r1 z3 h6 hwf cn hb1 hq z5 ht5 px5 gg gf n0 n1 n2 n3 n4 j0 j1 j2 cnm
  unfold maxLen at hc2
  generalize ((w5.alloc (tokO c ts p)).setCell ⟨w3.heap.size + 1, 2, none⟩ (.string ts)) = W at *
  have hiA : (0 : Int) ≤ ((ps.length : Nat) : Int) := by omega
  have hiB : ((ps.length : Nat) : Int) < ((ps.length + 1 : Nat) : Int) := by omega
  have hiC : ((ps.length : Nat) : Int) < (ps.length : Int) + 1 := by omega
  go_region_held3 (fun w' => w'.cell? ⟨rb, 6, none⟩ = some (.slice (some ⟨gb, 0, none⟩) (ps.length + 1) cap3) ∧ w'.cell? ⟨w3.heap.size + 1, 0, none⟩ = some (.string (oneB c)) ∧ w'.cell? ⟨w3.heap.size + 1, 1, none⟩ = some (.int .i64 0) ∧ w'.cell? ⟨w3.heap.size + 1, 2, none⟩ = some (.string ts) ∧ w'.cell? ⟨w3.heap.size + 1, 3, none⟩ = some (.int .i64 ((p : Nat) : Int)) ∧ w'.cell? ⟨w3.heap.size + 1, 4, none⟩ = some (.slice none 0 0)) (go_keep) (fail)
  all_goals go_wp2
  go_ret
  first
    | exact FIN.out
    | exact xPost_drew FIN.out
set_option maxRecDepth 8000 in
set_option maxHeartbeats 4000000 in
theorem expr_form_err (h : Rp w base rb tb cap l fv pv k d 0 a ps) (_hwf : TokWF l) (hsz : ps.length + (l.length - k) ≤ 3000) (hct : (l[k]'h.z.hk).1.k = .opn) (c q : Nat) (cf : ∀ (X : World) (pv' : Value) (qs : List PartV), Rp X base rb tb cap l fv pv' k d 0 a qs → qs.length + (l.length - k) ≤ 3001 → Calls Tryz.prog 148 #[.pointer (some ⟨rb, 0, none⟩)] X (fPost (.err c q) base rb tb cap l fv pv' k d a qs X)) :
    Calls Tryz.prog 102 #[.pointer (some ⟨rb, 0, none⟩)] w (xPost (.err c q) base rb tb cap l fv pv k d a ps w) := by
  have hlt := h.z.lt
  have hl := h.z.hl
  have hd := h.z.hd
  have hne1 := Nat.ne_of_lt hlt.1
  have hne2 := Nat.ne_of_lt hlt.2
  have cn := now_any h.z
  have hk := h.z.hk
  have hcv : rtokV (l[k]'hk) = .agg #[.int .u8 40, .string (l[k]'hk).2, .int .i64 (((l[k]'hk).1.at_ : Nat) : Int)] := by simp [hct, tcode]
  obtain ⟨vad, vcap, hpv⟩ := owns_slice h.own
  subst hpv
  generalize (l[k]'hk).2 = ts at *
  generalize (l[k]'hk).1.at_ = p at *
  generalize rtokV (l[k]'hk) = tv at *
  subst hcv
  go_enter Tryz.func102, Tryz.ntmps102
  go_wp2_with (first
    | (go_at_call 60; refine cn.mono ?_; rintro r w1 ⟨rfl, hb1⟩; have r1 := (h.below hb1).alloc (tokO 40 ts p); have g1 := tokO_new w1 40 ts p; obtain ⟨q0, q1, q2⟩ := g1.facts; have z0 := hb1.size; have ne3 : rb ≠ w1.heap.size := (by omega); obtain ⟨c0, c1, c2, c3, c4, c5, c6⟩ := r1.z.cells; have f6 := r1.z.free 6)
    | (at_builtin; go_loud (obtain ⟨i0, hi, hz0, hz1, hz2⟩ := info_parts Tryz.infoPart; refine wpList_append_own_at _ rfl _ _ 136 rfl base 319 i0 _ 5 72 Tryz.underlying136 hi hz0 hz1 hz2 rfl (by decide) _ _ _ rfl (r1.own.alloc _) ⟨w1.heap.size + 1, 0, none⟩ 1 1 [.string ⟨#[]⟩, .int .i64 0, .string ⟨#[]⟩, .int .i64 0, .slice none 0 0] rfl rfl (cell_five_new2 w1 _ _ _ _ _ _ _) (fun x hx => by simp at hx; rcases hx with h | h | h | h | h <;> (subst h; rfl)) (by unfold maxLen; omega) (by omega) (by simp; have := h.hb; omega) ?_; intro v' w3 hown' hgrow hnil hat; clear hi hz0 hz1 hz2; obtain ⟨ad3, cap3, rfl⟩ := owns_slice hown'; obtain ⟨z3, r4⟩ := (r1.alloc _).app hown' hgrow hat; have g3 := g1.below2 hgrow (fun g hg => (h.below hb1).lt.2.2 g hg |>.2); obtain ⟨s0, s1, s2⟩ := g3.facts; obtain ⟨d0, d1, d2, d3, d4, d5, d6⟩ := z3.cells; have h6 := z3.free 6; have zz := hgrow.size; simp at zz; have ne5 : w1.heap.size ≠ w3.heap.size := (by omega); have ne6 : rb ≠ w3.heap.size := (by omega); have hconv := conv_one (w3.setCell ⟨rb, 6, none⟩ (.slice ad3 (ps.length + 1) cap3)) 40 w3.heap.size (by simp); have g4 := g3.touch (rb := rb) ((Touch.refl (· = rb) w3).setCell (p := ⟨rb, 6, none⟩) (Or.inl rfl) (.slice ad3 (ps.length + 1) cap3)) (Ne.symm ne3); have g5 := g4.below (below1 _ (.cells #[.int .u8 40] 5)); have g6 := g5.below (below1 _ (.cells #[.string (oneB 40), .int .i64 0, .string ⟨#[]⟩, .int .i64 ((p : Nat) : Int), .slice none 0 0] 319)); obtain ⟨k0, k1, k2⟩ := g5.facts; obtain ⟨m0, m1, m2⟩ := g6.facts; clear q0 q1 q2 c0 c1 c2 c3 c4 c5 c6 f6))
    | (go_at_call 148; go_loud (refine (cf _ _ _ ((r4.alloc _).alloc _) (by simp; omega)).mono ?_; rintro r w5 ⟨ht5, k', d', pv', ps', q, qad, qnn, qcp, rfl, hkv, r5, hlen5, mv5, hc5⟩; obtain ⟨qo, qn, qz, qa, qk⟩ := q; simp only at hkv; subst hkv; obtain ⟨ad5, cap5, hs5⟩ := owns_slice r5.own; subst hs5; have px5 := (Px.new ((w3.setCell ⟨rb, 6, none⟩ (.slice ad3 (ps.length + 1) cap3)).alloc (.cells #[.int .u8 40] 5)) ⟨(oneB 40), 0, ⟨#[]⟩, p, (.slice none 0 0)⟩ (B := w3.heap.size + 1) (by simp)).touch ht5 (by rintro (g | g); (exact absurd g (by omega)); (exact absurd (hown'.lt _ g.symm).2 (by omega))); obtain ⟨n0, n1, n2, n3, n4⟩ := px5.facts; have u0 := px5.free 0; have u1 := px5.free 1; have u2 := px5.free 2; have u3 := px5.free 3; have u4 := px5.free 4)))
  have hlen6 : ps.length < ps'.length := by simp at hlen5; omega
  have rW := r5.other5 (B := w3.heap.size + 1) (Nat.ne_of_lt (by have := hlt.1; omega)) (Nat.ne_of_lt (by have := hlt.2; omega)) (fun e => by have := moved_lt mv5 e (fun g hg => (hown'.lt g hg).2) (by simp); omega) (.string qo) (.int .i64 qn) (.string qz) (.int .i64 ((qa : Nat) : Int)) (.slice qad qnn qcp)
  have px := px5.set5 ⟨qo, qn, qz, qa, (.slice qad qnn qcp)⟩
  have hTW : Touch (fun g => g = rb ∨ some g = (Value.slice vad ps.length vcap).ownBlock) w (((((w5.setCell ⟨w3.heap.size + 1, 0, none⟩ (.string qo)).setCell ⟨w3.heap.size + 1, 1, none⟩ (.int .i64 qn)).setCell ⟨w3.heap.size + 1, 2, none⟩ (.string qz)).setCell ⟨w3.heap.size + 1, 3, none⟩ (.int .i64 ((qa : Nat) : Int))).setCell ⟨w3.heap.size + 1, 4, none⟩ (.slice qad qnn qcp)) := (touch_trans2 (((touch_app hb1 hgrow hlt.1).alloc _).alloc _) ht5 (fun g hg => by rcases hg with e | e; (exact Or.inl (Or.inl e)); (rcases (moved_app (w := w) hat (by simp; omega)).own g e with e2 | e2; (exact Or.inl (Or.inr e2)); (exact Or.inr e2)))).set5 (by omega) _ _ _ _ _
  have mv := (moved_app (w := w) hat (by simp; omega)).trans mv5 (by simp; omega)
  obtain ⟨gb, rfl, hq, hc1, hc2, nb1, hgb, e6, ⟨y0, y1, y2, y3, y4, t0, t1, t2, t3, t4⟩, fr⟩ := tail_facts rW ps.length hlen6
  have hgb3 := moved_lt (gb := gb) mv5 rfl (fun g hg => (hown'.lt g hg).2) (by simp)
  have nb2 : w3.heap.size + 1 ≠ gb := by omega
  have nb3 : gb ≠ rb := Ne.symm nb1
  have nb4 : gb ≠ w3.heap.size + 1 := by omega
  obtain ⟨o0, o1, o2, o3, o4⟩ := px.facts
  have fr0 := fr (ps.length * 5)
  have fr1 := fr (ps.length * 5 + 1)
  have fr2 := fr (ps.length * 5 + 2)
  have fr3 := fr (ps.length * 5 + 3)
  have fr4 := fr (ps.length * 5 + 4)
  have FIN : Aside (xPost (.err c q) base rb tb cap l fv (.slice vad ps.length vcap) k d a ps w (.returned (.int .i64 ((ps.length : Nat) : Int))) (put5 (((((w5.setCell ⟨w3.heap.size + 1, 0, none⟩ (.string qo)).setCell ⟨w3.heap.size + 1, 1, none⟩ (.int .i64 qn)).setCell ⟨w3.heap.size + 1, 2, none⟩ (.string qz)).setCell ⟨w3.heap.size + 1, 3, none⟩ (.int .i64 ((qa : Nat) : Int))).setCell ⟨w3.heap.size + 1, 4, none⟩ (.slice qad qnn qcp)) gb ps.length ⟨qo, qn, qz, qa, (.slice qad qnn qcp)⟩)) := close_err (p := ⟨qo, qn, qz, qa, (.slice qad qnn qcp)⟩) hTW rW mv hlen6 hc5
  clear rW px hTW mv hat hown' hgrow hnil hconv k0 k1 k2 m0 m1 m2 s0 s1 s2 d0 d1 d2 d3 d4 d5 d6 fr g1 g3 g4 g5 g6 r4 r1 z3 h6 _hwf cn hb1 hq ht5 px5 n0 n1 n2 n3 n4 u0 u1 u2 u3 u4 r5 mv5 hlen5 cf
  unfold maxLen at hc2
  generalize (((((w5.setCell ⟨w3.heap.size + 1, 0, none⟩ (.string qo)).setCell ⟨w3.heap.size + 1, 1, none⟩ (.int .i64 qn)).setCell ⟨w3.heap.size + 1, 2, none⟩ (.string qz)).setCell ⟨w3.heap.size + 1, 3, none⟩ (.int .i64 ((qa : Nat) : Int))).setCell ⟨w3.heap.size + 1, 4, none⟩ (.slice qad qnn qcp)) = W at *
  have hiA : (0 : Int) ≤ ((ps.length : Nat) : Int) := by omega
  have hiB : ((ps.length : Nat) : Int) < ((ps.length + 1 : Nat) : Int) := by omega
  have hiC : ((ps.length : Nat) : Int) < (ps.length : Int) + 1 := by omega
  go_region_held3 (fun w' => w'.cell? ⟨rb, 6, none⟩ = some (.slice (some ⟨gb, 0, none⟩) ps'.length cap5) ∧ w'.cell? ⟨w3.heap.size + 1, 0, none⟩ = some (.string qo) ∧ w'.cell? ⟨w3.heap.size + 1, 1, none⟩ = some (.int .i64 qn) ∧ w'.cell? ⟨w3.heap.size + 1, 2, none⟩ = some (.string qz) ∧ w'.cell? ⟨w3.heap.size + 1, 3, none⟩ = some (.int .i64 ((qa : Nat) : Int)) ∧ w'.cell? ⟨w3.heap.size + 1, 4, none⟩ = some (.slice qad qnn qcp)) (go_keep) (fail)
  all_goals go_wp2
  go_ret
  first
    | exact FIN.out
    | exact xPost_drew FIN.out
set_option maxRecDepth 8000 in
set_option maxHeartbeats 4000000 in
theorem expr_form_ok (h : Rp w base rb tb cap l fv pv k d 0 a ps) (_hwf : TokWF l) (hsz : ps.length + (l.length - k) ≤ 3000) (hct : (l[k]'h.z.hk).1.k = .opn) (ex : Ex) (rest : List Tok) (cf : ∀ (X : World) (pv' : Value) (qs : List PartV), Rp X base rb tb cap l fv pv' k d 0 a qs → qs.length + (l.length - k) ≤ 3001 → Calls Tryz.prog 148 #[.pointer (some ⟨rb, 0, none⟩)] X (fPost (.ok ex rest) base rb tb cap l fv pv' k d a qs X)) :
    Calls Tryz.prog 102 #[.pointer (some ⟨rb, 0, none⟩)] w (xPost (.ok ex rest) base rb tb cap l fv pv k d a ps w) := by
  have hlt := h.z.lt
  have hl := h.z.hl
  have hd := h.z.hd
  have hne1 := Nat.ne_of_lt hlt.1
  have hne2 := Nat.ne_of_lt hlt.2
  have cn := now_any h.z
  have hk := h.z.hk
  have hcv : rtokV (l[k]'hk) = .agg #[.int .u8 40, .string (l[k]'hk).2, .int .i64 (((l[k]'hk).1.at_ : Nat) : Int)] := by simp [hct, tcode]
  obtain ⟨vad, vcap, hpv⟩ := owns_slice h.own
  subst hpv
  generalize (l[k]'hk).2 = ts at *
  generalize (l[k]'hk).1.at_ = p at *
  generalize rtokV (l[k]'hk) = tv at *
  subst hcv
  go_enter Tryz.func102, Tryz.ntmps102
  go_wp2_with (first
    | (go_at_call 60; refine cn.mono ?_; rintro r w1 ⟨rfl, hb1⟩; have r1 := (h.below hb1).alloc (tokO 40 ts p); have g1 := tokO_new w1 40 ts p; obtain ⟨q0, q1, q2⟩ := g1.facts; have z0 := hb1.size; have ne3 : rb ≠ w1.heap.size := (by omega); obtain ⟨c0, c1, c2, c3, c4, c5, c6⟩ := r1.z.cells; have f6 := r1.z.free 6)
    | (at_builtin; go_loud (obtain ⟨i0, hi, hz0, hz1, hz2⟩ := info_parts Tryz.infoPart; refine wpList_append_own_at _ rfl _ _ 136 rfl base 319 i0 _ 5 72 Tryz.underlying136 hi hz0 hz1 hz2 rfl (by decide) _ _ _ rfl (r1.own.alloc _) ⟨w1.heap.size + 1, 0, none⟩ 1 1 [.string ⟨#[]⟩, .int .i64 0, .string ⟨#[]⟩, .int .i64 0, .slice none 0 0] rfl rfl (cell_five_new2 w1 _ _ _ _ _ _ _) (fun x hx => by simp at hx; rcases hx with h | h | h | h | h <;> (subst h; rfl)) (by unfold maxLen; omega) (by omega) (by simp; have := h.hb; omega) ?_; intro v' w3 hown' hgrow hnil hat; clear hi hz0 hz1 hz2; obtain ⟨ad3, cap3, rfl⟩ := owns_slice hown'; obtain ⟨z3, r4⟩ := (r1.alloc _).app hown' hgrow hat; have g3 := g1.below2 hgrow (fun g hg => (h.below hb1).lt.2.2 g hg |>.2); obtain ⟨s0, s1, s2⟩ := g3.facts; obtain ⟨d0, d1, d2, d3, d4, d5, d6⟩ := z3.cells; have h6 := z3.free 6; have zz := hgrow.size; simp at zz; have ne5 : w1.heap.size ≠ w3.heap.size := (by omega); have ne6 : rb ≠ w3.heap.size := (by omega); have hconv := conv_one (w3.setCell ⟨rb, 6, none⟩ (.slice ad3 (ps.length + 1) cap3)) 40 w3.heap.size (by simp); have g4 := g3.touch (rb := rb) ((Touch.refl (· = rb) w3).setCell (p := ⟨rb, 6, none⟩) (Or.inl rfl) (.slice ad3 (ps.length + 1) cap3)) (Ne.symm ne3); have g5 := g4.below (below1 _ (.cells #[.int .u8 40] 5)); have g6 := g5.below (below1 _ (.cells #[.string (oneB 40), .int .i64 0, .string ⟨#[]⟩, .int .i64 ((p : Nat) : Int), .slice none 0 0] 319)); obtain ⟨k0, k1, k2⟩ := g5.facts; obtain ⟨m0, m1, m2⟩ := g6.facts; clear q0 q1 q2 c0 c1 c2 c3 c4 c5 c6 f6))
    | (go_at_call 148; go_loud (refine (cf _ _ _ ((r4.alloc _).alloc _) (by simp; omega)).mono ?_; rintro r w5 ⟨ht5, k', pv', ps', q, qad, qnn, qcp, wd, nm, at_, ks, js, rfl, hkv, r5, hrest5, hpre5, mv5, hex5, hop5, hs5n, hat5, hrow5, hrep5, hsz5⟩; obtain ⟨qo, qn, qz, qa, qk⟩ := q; simp only at hkv; subst hkv; simp only at hat5; subst hat5; obtain ⟨ad5, cap5, hs5⟩ := owns_slice r5.own; subst hs5; have px5 := (Px.new ((w3.setCell ⟨rb, 6, none⟩ (.slice ad3 (ps.length + 1) cap3)).alloc (.cells #[.int .u8 40] 5)) ⟨(oneB 40), 0, ⟨#[]⟩, p, (.slice none 0 0)⟩ (B := w3.heap.size + 1) (by simp)).touch ht5 (by rintro (g | g); (exact absurd g (by omega)); (exact absurd (hown'.lt _ g.symm).2 (by omega))); obtain ⟨n0, n1, n2, n3, n4⟩ := px5.facts; have u0 := px5.free 0; have u1 := px5.free 1; have u2 := px5.free 2; have u3 := px5.free 3; have u4 := px5.free 4)))
  have hlen6 : ps.length < ps'.length := by have := hpre5.length_le; simp at this; omega
  have rW := r5.other5 (B := w3.heap.size + 1) (Nat.ne_of_lt (by have := hlt.1; omega)) (Nat.ne_of_lt (by have := hlt.2; omega)) (fun e => by have := moved_lt mv5 e (fun g hg => (hown'.lt g hg).2) (by simp); omega) (.string qo) (.int .i64 qn) (.string qz) (.int .i64 ((qa : Nat) : Int)) (.slice qad qnn qcp)
  have px := px5.set5 ⟨qo, qn, qz, qa, (.slice qad qnn qcp)⟩
  have hTW : Touch (fun g => g = rb ∨ some g = (Value.slice vad ps.length vcap).ownBlock) w (((((w5.setCell ⟨w3.heap.size + 1, 0, none⟩ (.string qo)).setCell ⟨w3.heap.size + 1, 1, none⟩ (.int .i64 qn)).setCell ⟨w3.heap.size + 1, 2, none⟩ (.string qz)).setCell ⟨w3.heap.size + 1, 3, none⟩ (.int .i64 ((qa : Nat) : Int))).setCell ⟨w3.heap.size + 1, 4, none⟩ (.slice qad qnn qcp)) := (touch_trans2 (((touch_app hb1 hgrow hlt.1).alloc _).alloc _) ht5 (fun g hg => by rcases hg with e | e; (exact Or.inl (Or.inl e)); (rcases (moved_app (w := w) hat (by simp; omega)).own g e with e2 | e2; (exact Or.inl (Or.inr e2)); (exact Or.inr e2)))).set5 (by omega) _ _ _ _ _
  have mv := (moved_app (w := w) hat (by simp; omega)).trans mv5 (by simp; omega)
  obtain ⟨gb, rfl, hq, hc1, hc2, nb1, hgb, e6, ⟨y0, y1, y2, y3, y4, t0, t1, t2, t3, t4⟩, fr⟩ := tail_facts rW ps.length hlen6
  have hgb3 := moved_lt (gb := gb) mv5 rfl (fun g hg => (hown'.lt g hg).2) (by simp)
  have nb2 : w3.heap.size + 1 ≠ gb := by omega
  have nb3 : gb ≠ rb := Ne.symm nb1
  have nb4 : gb ≠ w3.heap.size + 1 := by omega
  obtain ⟨o0, o1, o2, o3, o4⟩ := px.facts
  have fr0 := fr (ps.length * 5)
  have fr1 := fr (ps.length * 5 + 1)
  have fr2 := fr (ps.length * 5 + 2)
  have fr3 := fr (ps.length * 5 + 3)
  have fr4 := fr (ps.length * 5 + 4)
  have FIN : Aside (xPost (.ok ex rest) base rb tb cap l fv (.slice vad ps.length vcap) k d a ps w (.returned (.int .i64 ((ps.length : Nat) : Int))) (put5 (((((w5.setCell ⟨w3.heap.size + 1, 0, none⟩ (.string qo)).setCell ⟨w3.heap.size + 1, 1, none⟩ (.int .i64 qn)).setCell ⟨w3.heap.size + 1, 2, none⟩ (.string qz)).setCell ⟨w3.heap.size + 1, 3, none⟩ (.int .i64 ((qa : Nat) : Int))).setCell ⟨w3.heap.size + 1, 4, none⟩ (.slice qad qnn qcp)) gb ps.length ⟨qo, qn, qz, qa, (.slice qad qnn qcp)⟩)) := by
    rw [hex5, ← hrest5]
    exact close_form (w5 := (((w3.setCell ⟨rb, 6, none⟩ (.slice ad3 (ps.length + 1) cap3)).alloc (.cells #[.int .u8 40] 5)).alloc (.cells #[.string (oneB 40), .int .i64 0, .string ⟨#[]⟩, .int .i64 ((p : Nat) : Int), (.slice none 0 0)] 319))) (wf := w5) (p := ⟨qo, qn, qz, qa, (.slice qad qnn qcp)⟩) hTW rW mv (by simp; omega) hpre5 hop5 hs5n rfl hrow5 (by have := hrep5; rw [List.length_append] at this; exact this) (fun g h1 _ => set5_far (by simp at h1; omega) _ _ _ _ _) (by simp at hsz5; omega)
  clear rW px hTW mv hat hown' hgrow hnil hconv k0 k1 k2 m0 m1 m2 s0 s1 s2 d0 d1 d2 d3 d4 d5 d6 fr g1 g3 g4 g5 g6 r4 r1 z3 h6 _hwf cn hb1 hq ht5 px5 n0 n1 n2 n3 n4 u0 u1 u2 u3 u4 r5 mv5 cf hrest5 hpre5 hex5 hop5 hs5n hrow5 hrep5 hsz5
  unfold maxLen at hc2
  generalize (((((w5.setCell ⟨w3.heap.size + 1, 0, none⟩ (.string qo)).setCell ⟨w3.heap.size + 1, 1, none⟩ (.int .i64 qn)).setCell ⟨w3.heap.size + 1, 2, none⟩ (.string qz)).setCell ⟨w3.heap.size + 1, 3, none⟩ (.int .i64 ((qa : Nat) : Int))).setCell ⟨w3.heap.size + 1, 4, none⟩ (.slice qad qnn qcp)) = W at *
  have hiA : (0 : Int) ≤ ((ps.length : Nat) : Int) := by omega
  have hiB : ((ps.length : Nat) : Int) < ((ps.length + 1 : Nat) : Int) := by omega
  have hiC : ((ps.length : Nat) : Int) < (ps.length : Int) + 1 := by omega
  go_region_held3 (fun w' => w'.cell? ⟨rb, 6, none⟩ = some (.slice (some ⟨gb, 0, none⟩) ps'.length cap5) ∧ w'.cell? ⟨w3.heap.size + 1, 0, none⟩ = some (.string qo) ∧ w'.cell? ⟨w3.heap.size + 1, 1, none⟩ = some (.int .i64 qn) ∧ w'.cell? ⟨w3.heap.size + 1, 2, none⟩ = some (.string qz) ∧ w'.cell? ⟨w3.heap.size + 1, 3, none⟩ = some (.int .i64 ((qa : Nat) : Int)) ∧ w'.cell? ⟨w3.heap.size + 1, 4, none⟩ = some (.slice qad qnn qcp)) (go_keep) (fail)
  all_goals go_wp2
  go_ret
  first
    | exact FIN.out
    | exact xPost_drew FIN.out
end
end Go.Proofs.YtdiefbahmcihlaaGreatDoor
