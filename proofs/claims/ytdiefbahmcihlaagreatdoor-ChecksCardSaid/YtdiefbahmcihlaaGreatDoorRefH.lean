/-
  The reference: form.
-/
import Derived.Test.YtdiefbahmcihlaaGreatDoorRefH0
import Derived.Deep.LoopGhost
namespace Go.Proofs.YtdiefbahmcihlaaGreatDoor
open Go.RowKit
attribute [local go_sem ↓] Go.wp_at_zero Go.wp_at_succ
attribute [local go_sem] field0

section
variable {w : World} {base rb tb cap : Nat} {l : List (Tok × ByteArray)} {fv pv : Value} {k d e a : Nat} {ps : List PartV}
set_option maxRecDepth 8000 in
set_option maxHeartbeats 8000000 in
theorem rform_plain (h : Rp w base rb tb cap l fv pv k d 0 a ps) (hwf : TokWF l) (hsz : ps.length + (l.length - k) ≤ 3001) (hct : (l[k]'h.z.hk).1.k = .opn) (hk1 : k + 1 < l.length) (hd2 : d < 16) (hw1 : (l[k + 1]'hk1).1.k = .word) (sn : Int) (hsh : shapeL (l[k + 1]'hk1).2.data.toList = some (false, sn)) (G : Nat) (IH : ∀ g, g < G → ExDo base rb tb cap l fv a g) (hG : (toksAt l (k + 2)).length ≤ G) :
    Calls Tryz.prog 148 #[.pointer (some ⟨rb, 0, none⟩)] w (fPost (formR (l[k + 1]'hk1).1.body [] (l[k + 1]'hk1).1.at_ (pL G (d + 1) sn (toksAt l (k + 2)))) base rb tb cap l fv pv k d a ps w) := by
  have hlt := h.z.lt
  have hl := h.z.hl
  have hne1 := Nat.ne_of_lt hlt.1
  have hne2 := Nat.ne_of_lt hlt.2
  have hk := h.z.hk
  have hkc0 : tcode (l[k]'hk).1.k = 40 := by rw [hct]; rfl
  obtain ⟨vad, vcap, hpv⟩ := owns_slice h.own
  subst hpv
  have r0 := h.alloc zPart
  have cn1 : ∀ (X : World) (pv : Value) (d e a : Nat), Rz X rb tb cap l fv pv (k + 1) d e a → Calls Tryz.prog 60 #[.pointer (some ⟨rb, 0, none⟩)] X fun r w' => r = .returned (rtokV (l[(k + 1)]'hk1)) ∧ Below X.heap.size X w' := fun X pv d e a hz => now_any hz
  have hcv : rtokV (l[(k + 1)]'hk1) = .agg #[.int .u8 97, .string (l[(k + 1)]'hk1).2, .int .i64 (((l[(k + 1)]'hk1).1.at_ : Nat) : Int)] := by simp [hw1, tcode]
  have cf := forms_any (l[(k + 1)]'hk1).2
  rw [hsh] at cf
  have hn2 := hwf.more (k + 1) hk1 (by rw [hw1]; decide) (by rw [hw1]; decide)
  have ov2 : ∀ (X : World) (pv : Value) (d a : Nat), Rz X rb tb cap l fv pv (k + 1) d 0 a → Calls Tryz.prog 100 #[.pointer (some ⟨rb, 0, none⟩), .int .u8 97, .string ⟨#[]⟩] X fun r w' => (∃ v, r = .returned v) ∧ Touch (· = rb) X w' ∧ Rz w' rb tb cap l fv pv (k + 1 + 1) d 0 a := fun X pv d a hz => (over_word hz (by rw [hw1]; rfl) hn2).mono fun r w' ⟨h1, h2⟩ => ⟨⟨_, h1⟩, h2⟩
  have ov1 := over_opn r0.z hkc0 hd2 hk1
  have hb1w := hwf.tx _ (List.getElem_mem hk1)
  have hres0 : formR (l[k + 1]'hk1).1.body [] (l[k + 1]'hk1).1.at_ (pL G (d + 1) sn (toksAt l (k + 2))) = formR (l[k + 1]'hk1).2.data.toList [] (l[k + 1]'hk1).1.at_ (pL G (d + 1) sn (toksAt l (k + 2))) := by rw [hb1w]
  rw [hres0]
  clear hres0 hb1w
  have hsb := shape_bounds hsh
  generalize hts : (l[k + 1]'hk1).2 = ts at *
  generalize hpp : (l[k + 1]'hk1).1.at_ = p at *
  generalize rtokV (l[k + 1]'hk1) = tv1 at *
  subst hcv
  generalize rtokV (l[k]'hk) = tv0 at *
  go_enter Tryz.func148, Tryz.ntmps148
  go_wp2_with (first
    | (go_at_call 100; go_loud (refine (ov2 _ _ _ _ r2.z).mono ?_; rintro r w4 ⟨⟨tv4, rfl⟩, ht4, z4⟩; have r4 := r2.touch ht4 z4; have g4 := g2.touch ht4 (Ne.symm ne3); obtain ⟨s0, s1, s2⟩ := g4.facts; have sz4 := ht4.size; (try simp at sz4); clear q0 q1 q2; have T04 : Touch (· = rb) (w.alloc zPart) w4 := ((ht1.trans (Touch.of_below hb2)).alloc _).trans ht4; have fs0 := FS.start (op := ts) (p := p) h T04 r4; obtain ⟨x0, x1, x2, x3, x4, x5, x6⟩ := fs0.rp.z.cells))
    | (go_at_call 146; refine (cf _).mono ?_; rintro r w9 ⟨rfl, rfl⟩; simp only [formsV])
    | (go_at_call 60; go_loud (refine (cn1 _ _ _ _ _ z1).mono ?_; rintro r w2 ⟨rfl, hb2⟩; have r2 := (r1.below hb2).alloc (tokO 97 ts p); have g2 := tokO_new w2 97 ts p; obtain ⟨q0, q1, q2⟩ := g2.facts; have sz1 := ht1.size; have sz2 := hb2.size; simp at sz1; have ne3 : rb ≠ w2.heap.size := (by omega)))
    | (go_at_call 100; go_loud (refine ov1.mono ?_; rintro r w1 ⟨rfl, ht1, z1⟩; have r1 := r0.touch ht1 z1)))
  have hB0 : ps.length + (l.length - (k + 1 + 1)) ≤ ps.length + (l.length - k) - 2 := by omega
  generalize hBe : ps.length + (l.length - k) - 2 = B0 at *
  generalize hPB : w4.heap.size = PB at *
  generalize w4.alloc (newPart ts p) = W at *
  clear x0 x1 x2 x3 x4 x5 x6 T04 r4 r2 r1 r0 ht1 ht4 hb2 z1 z4 g2 g4 s0 s1 s2 cn1 cf ov1 ov2 sz1 sz2 sz4 ne3
  generalize hRr : pL G (d + 1) sn (toksAt l (k + 2)) = Rr at *
  go_loopg [9] (l.length - (k + 1 + 1) + 1) (fun gh iv wr => FLoop base rb tb cap l fv (.slice vad ps.length vcap) ps w w.heap.size PB ts ⟨#[]⟩ p (d + 1) a B0 G sn Rr gh iv wr)
  case atStart => exact ⟨none, 0, [], _, _, _, _, vad, vcap, ps, rfl, fs0, (by rw [← hRr]; exact Or.inl ⟨rfl, rfl, rfl, rfl, List.prefix_rfl, by omega, by simp; omega, [], G, by rw [RepPs], hG, Nat.le_refl _, by simp, by simp [addE_nil]⟩)⟩
  case round =>
    obtain ⟨kad, kcp, js, k', d', e', a', pad, pcp, ps', rfl, fs, hst⟩ := hrel
    have hk' := fs.rp.z.hk
    have hl3 := fs.rp.z.hl
    obtain ⟨c0, c1, c2, c3, c4, c5, c6⟩ := fs.rp.z.cells
    rcases hst with ⟨rfl, rfl, ha', rfl, hpre, hB, hj, es, f, hrep, hf1, hf2, hm, hR⟩ | ⟨he, rfl, hR⟩
    · obtain rfl := ha'.symm
      have hfp : 0 < f := by rw [toksAt_len] at hf1; omega
      obtain ⟨f, rfl⟩ : ∃ f', f = f' + 1 := ⟨f - 1, by omega⟩
      have htc := toksAt_cons hk'
      have hbase := fs.ht.size
      by_cases hneg : sn < 0
      · rw [if_pos hneg] at hR
        have hnj : ¬ ((js.length : Int) = sn) := by omega
        by_cases hcls : (l[k']'hk').1.k = .cls
        · -- A
          have hRR : Hid (Rr = .ok es (toksAt l (k' + 1))) := by
            show _ = _
            rw [hR, htc, pL_close (Or.inr ⟨hneg, hcls⟩), if_pos hcls]
            simp [addE]
          have hn9 := hwf.more k' hk' (by rw [hcls]; decide) (by rw [hcls]; decide)
          have hkc9 : tcode (l[k']'hk').1.k = 41 := by rw [hcls]; rfl
          have hcv9 : rtokV (l[k']'hk') = .agg #[.int .u8 41, .string (l[k']'hk').2, .int .i64 (((l[k']'hk').1.at_ : Nat) : Int)] := by rw [← hkc9]
          have cn9 := now_any fs.rp.z
          rw [hcv9] at cn9
          have fsA := fs
          clear hR htc hf1 hm
          go_wp2_with (first
            | (go_at_call 60; go_loud (refine cn9.mono ?_; rintro r w8 ⟨rfl, hb8⟩; have fs8 := fsA.below hb8))
            | (go_at_call 100; go_loud (refine (over_cls fs8.rp.z hkc9 hn9).mono ?_; rintro r w9 ⟨rfl, ht9, z9⟩; generalize rtokV (l[k']'hk') = tv9; have fs9 := fs8.over ht9 z9; obtain ⟨o0, o1, o2, o3, o4⟩ := fs9.pp.facts; obtain ⟨b0, b1, b2, b3, b4⟩ := fs9.pr.facts; have v0 := fs9.pr.free 0; have v1 := fs9.pr.free 1; have v2 := fs9.pr.free 2; have v3 := fs9.pr.free 3; have v4 := fs9.pr.free 4; have hpr9 := fs9.hPR; have hpr8 := Ne.symm fs9.hPR)))
          refine bodyPost_ret (v := partV ⟨ts, 0, ⟨#[]⟩, p, .slice kad js.length kcp⟩) (by simp [results, Tryz.results148, go_sem, b0, b1, b2, b3, b4]) rfl ?_
          rw [hRR.out]
          exact fin_ok2 fs fs9 (Touch.trans (Touch.of_below hb8) ht9) rfl hpre hrep (row_not_box fs.pr (by decide)) (by omega)
        · -- C
          have hRS : Aside (Rr = addE es (stepR f (d + 1) (if sn < 0 then sn else sn - js.length) (pE (pL f) (d + 1) (toksAt l k')))) := by
            show _ = _
            rw [hR, htc, pL_step (by omega) (fun _ => hcls)]
            rw [if_pos hneg]
          have IHf := IH f (by omega)
          have hm2 : 0 ≤ sn → (js.length : Int) + 1 ≤ sn := by omega
          have hFS : Aside (FS base rb tb cap l fv (.slice vad ps.length vcap) ps w w.heap.size PB ts ⟨#[]⟩ p wr kad kcp js k' (d + 1) 0 a pad pcp ps') := fs
          have hRP : Aside (RepPs wr (fun g => w.heap.size ≤ g ∧ some g ≠ (Value.slice pad ps'.length pcp).ownBlock ∧ some g ≠ (Value.slice kad js.length kcp).ownBlock ∧ g ≠ PB) ps' ps.length es js) := hrep
          have F1 : Aside ((toksAt l k').length ≤ f + 1) := hf1
          have PP : Aside (ps <+: ps') := hpre
          have hkc9 : ((tcode (l[k']'hk').1.k) == 41) = false := beq_no fun e => hcls ((tcode_cls _).1 e)
          have cn9 := now_any fs.rp.z
          have hcv9 : rtokV (l[k']'hk') = .agg #[.int .u8 (tcode (l[k']'hk').1.k), .string (l[k']'hk').2, .int .i64 (((l[k']'hk').1.at_ : Nat) : Int)] := rfl
          rw [hcv9] at cn9
          generalize tcode (l[k']'hk').1.k = tk9 at *
          generalize (l[k']'hk').2 = ts9 at *
          generalize (l[k']'hk').1.at_ = ta9 at *
          clear hR htc hf1 hm hrep hcls hcv9
          go_wp2_with (first
            | (go_at_call 60; go_loud (refine cn9.mono ?_; rintro r w8 ⟨rfl, hb8⟩; have fs8 := fs.below hb8; have sz8 := hb8.size))
            | (go_at_call 102; go_loud (refine (ex_both IHf fs8.rp (by omega) (by have := F1.out; omega)).mono ?_; rintro r w2 ⟨k2, d2, e2, a2, qad, qcp, qs, rfl, ht2, rp2, hlen2, mv2, H2⟩; have pp2 := fs8.pp.touch ht2 (by rintro (g | g); (exact absurd g (by have := fs.hP; have := fs.hw; omega)); (exact fs.nP g)); obtain ⟨o0, o1, o2, o3, o4⟩ := pp2.facts; have ko2 := fs8.kept2 ht2))
            | (at_builtin; go_loud (obtain ⟨i0, hi, hz0, hz1, hz2⟩ := info_parts Tryz.infoIntR; refine wpList_append_own_at _ rfl _ _ 28 rfl w.heap.size 3 i0 _ 1 8 Tryz.underlying28 hi hz0 hz1 hz2 rfl (by decide) _ _ _ rfl (ko2.alloc _) ⟨w2.heap.size, 0, none⟩ 1 1 [.int .i64 ((ps'.length : Nat) : Int)] rfl rfl (cell_one_new _ _ _) (fun x hx => by simp at hx; subst hx; rfl) (by unfold maxLen; omega) (by omega) (by have := ht2.size; simp; omega) ?_; intro v' w3 own3 hg3 hnil3 hat3; clear hi hz0 hz1 hz2; obtain ⟨kad2, kcp2, rfl⟩ := owns_slice own3; have KID := fs8.kid ht2 rp2 hlen2 mv2 own3 hg3 hat3; obtain ⟨s0, s1, s2, s3, s4⟩ := KID.2.1.facts; have u4 := KID.2.1.free 4)))
          have NX : Aside _ := FLoop.next (m := sn) (B0 := B0) (G := G) (Rr := Rr) fs8 KID.1 KID.2.2.1 KID.2.2.2.1 KID.2.2.2.2 mv2 ht2.size PP.out (by omega) (by omega) (RepPs.map (lo := ps.length) (fun i q _ hq => hq) (Nat.le_refl _) (fun sl n vs hr => row_below hr hb8) hRP.out) F1.out hf2 hm2 hRS.out H2.out
          obtain ⟨gh, hgh, hfl⟩ := NX.out
          go_roundg gh
          case measure => exact hgh
          case rel => (first | exact hfl | (have e : ((js ++ [ps'.length]).length : Int) = (js.length : Int) + 1 := (by simp); rw [e] at hfl; exact hfl))
      · rw [if_neg hneg] at hR
        by_cases hij : (js.length : Int) = sn
        · by_cases hcls : (l[k']'hk').1.k = .cls
          · -- B1
            have hRR : Hid (Rr = .ok es (toksAt l (k' + 1))) := by
              show _ = _
              rw [hR, htc, pL_close (Or.inl (by omega)), if_pos hcls]
              simp [addE]
            have hn9 := hwf.more k' hk' (by rw [hcls]; decide) (by rw [hcls]; decide)
            have hkc9 : tcode (l[k']'hk').1.k = 41 := by rw [hcls]; rfl
            clear hR htc hf1 hm
            go_wp2_with (go_at_call 100; go_loud (refine (over_cls fs.rp.z hkc9 hn9).mono ?_; rintro r w9 ⟨rfl, ht9, z9⟩; generalize rtokV (l[k']'hk') = tv9; have fs9 := fs.over ht9 z9; obtain ⟨o0, o1, o2, o3, o4⟩ := fs9.pp.facts; obtain ⟨b0, b1, b2, b3, b4⟩ := fs9.pr.facts; have v0 := fs9.pr.free 0; have v1 := fs9.pr.free 1; have v2 := fs9.pr.free 2; have v3 := fs9.pr.free 3; have v4 := fs9.pr.free 4; have hpr9 := fs9.hPR; have hpr8 := Ne.symm fs9.hPR))
            refine bodyPost_ret (v := partV ⟨ts, 0, ⟨#[]⟩, p, .slice kad js.length kcp⟩) (by simp [results, Tryz.results148, go_sem, b0, b1, b2, b3, b4]) rfl ?_
            rw [hRR.out]
            exact fin_ok2 fs fs9 ht9 rfl hpre hrep (row_not_box fs.pr (by decide)) (by omega)
          · -- B2
            have hRR : Hid (Rr = .err 2 (l[k']'hk').1.at_) := by
              show _ = _
              rw [hR, htc, pL_close (Or.inl (by omega)), if_neg hcls]
              rfl
            have hkc9 : tcode (l[k']'hk').1.k ≠ 41 := fun e => hcls ((tcode_cls _).1 e)
            clear hR htc hf1 hm
            go_wp2_with (go_at_call 100; go_loud (refine (over_kind fs.rp.z 41 ⟨#[]⟩ hkc9).mono ?_; rintro r w9 ⟨rfl, ht9, z9⟩; generalize rtokV (l[k']'hk') = tv9; have fs9 := fs.over ht9 z9; obtain ⟨o0, o1, o2, o3, o4⟩ := fs9.pp.facts; obtain ⟨b0, b1, b2, b3, b4⟩ := fs9.pr.facts; have v0 := fs9.pr.free 0; have v1 := fs9.pr.free 1; have v2 := fs9.pr.free 2; have v3 := fs9.pr.free 3; have v4 := fs9.pr.free 4; have hpr9 := fs9.hPR; have hpr8 := Ne.symm fs9.hPR))
            refine bodyPost_ret (v := partV ⟨ts, 0, ⟨#[]⟩, p, .slice kad js.length kcp⟩) (by simp [results, Tryz.results148, go_sem, b0, b1, b2, b3, b4]) rfl ?_
            rw [hRR.out]
            exact fin_err fs9 (by decide)
        · -- D
          have hRS : Aside (Rr = addE es (stepR f (d + 1) (if sn < 0 then sn else sn - js.length) (pE (pL f) (d + 1) (toksAt l k')))) := by
            show _ = _
            rw [hR, htc, pL_step (by omega) (fun h => absurd h (by have := hm (by omega); omega))]
            rw [if_neg hneg]
          have IHf := IH f (by omega)
          have hm2 : 0 ≤ sn → (js.length : Int) + 1 ≤ sn := by intro _; have := hm (by omega); omega
          have hFS : Aside (FS base rb tb cap l fv (.slice vad ps.length vcap) ps w w.heap.size PB ts ⟨#[]⟩ p wr kad kcp js k' (d + 1) 0 a pad pcp ps') := fs
          have hRP : Aside (RepPs wr (fun g => w.heap.size ≤ g ∧ some g ≠ (Value.slice pad ps'.length pcp).ownBlock ∧ some g ≠ (Value.slice kad js.length kcp).ownBlock ∧ g ≠ PB) ps' ps.length es js) := hrep
          have F1 : Aside ((toksAt l k').length ≤ f + 1) := hf1
          have PP : Aside (ps <+: ps') := hpre
          clear hR htc hf1 hm hrep
          go_wp2_with (first
            | (go_at_call 102; go_loud (refine (ex_both IHf fs.rp (by omega) (by have := F1.out; omega)).mono ?_; rintro r w2 ⟨k2, d2, e2, a2, qad, qcp, qs, rfl, ht2, rp2, hlen2, mv2, H2⟩; have pp2 := fs.pp.touch ht2 (by rintro (g | g); (exact absurd g (by have := fs.hP; have := fs.hw; omega)); (exact fs.nP g)); obtain ⟨o0, o1, o2, o3, o4⟩ := pp2.facts; have ko2 := fs.kept2 ht2))
            | (at_builtin; go_loud (obtain ⟨i0, hi, hz0, hz1, hz2⟩ := info_parts Tryz.infoIntR; refine wpList_append_own_at _ rfl _ _ 28 rfl w.heap.size 3 i0 _ 1 8 Tryz.underlying28 hi hz0 hz1 hz2 rfl (by decide) _ _ _ rfl (ko2.alloc _) ⟨w2.heap.size, 0, none⟩ 1 1 [.int .i64 ((ps'.length : Nat) : Int)] rfl rfl (cell_one_new _ _ _) (fun x hx => by simp at hx; subst hx; rfl) (by unfold maxLen; omega) (by omega) (by have := ht2.size; simp; omega) ?_; intro v' w3 own3 hg3 hnil3 hat3; clear hi hz0 hz1 hz2; obtain ⟨kad2, kcp2, rfl⟩ := owns_slice own3; have KID := fs.kid ht2 rp2 hlen2 mv2 own3 hg3 hat3; obtain ⟨s0, s1, s2, s3, s4⟩ := KID.2.1.facts; have u4 := KID.2.1.free 4)))
          have NX : Aside _ := FLoop.next (m := sn) (B0 := B0) (G := G) (Rr := Rr) fs KID.1 KID.2.2.1 KID.2.2.2.1 KID.2.2.2.2 mv2 ht2.size PP.out (by omega) (by omega) hRP.out F1.out hf2 hm2 hRS.out H2.out
          obtain ⟨gh, hgh, hfl⟩ := NX.out
          go_roundg gh
          case measure => exact hgh
          case rel => (first | exact hfl | (have e : ((js ++ [ps'.length]).length : Int) = (js.length : Int) + 1 := (by simp); rw [e] at hfl; exact hfl))
    · -- E
      have hRR : Hid (Rr = .err e' a') := hR
      clear hR
      go_wp2_with (go_at_call 100; go_loud (refine (over_err fs.rp.z he 41 ⟨#[]⟩).mono ?_; rintro r w9 ⟨rfl, ht9, z9⟩; generalize rtokV (l[k']'hk') = tv9; have fs9 := fs.over ht9 z9; obtain ⟨o0, o1, o2, o3, o4⟩ := fs9.pp.facts; obtain ⟨b0, b1, b2, b3, b4⟩ := fs9.pr.facts; have v0 := fs9.pr.free 0; have v1 := fs9.pr.free 1; have v2 := fs9.pr.free 2; have v3 := fs9.pr.free 3; have v4 := fs9.pr.free 4; have hpr9 := fs9.hPR; have hpr8 := Ne.symm fs9.hPR))
      refine bodyPost_ret (v := partV ⟨ts, 0, ⟨#[]⟩, p, .slice kad js.length kcp⟩) (by simp [results, Tryz.results148, go_sem, b0, b1, b2, b3, b4]) rfl ?_
      rw [hRR.out]
      exact fin_err fs9 he
set_option maxRecDepth 8000 in
set_option maxHeartbeats 8000000 in
theorem form_deep (h : Rp w base rb tb cap l fv pv k d 0 a ps) (hwf : TokWF l) (_hsz : ps.length + (l.length - k) ≤ 3001) (hct : (l[k]'h.z.hk).1.k = .opn) (_hk1 : k + 1 < l.length) (hd2 : d = 16) :
    Calls Tryz.prog 148 #[.pointer (some ⟨rb, 0, none⟩)] w (fPost (.err 3 (l[k]'h.z.hk).1.at_) base rb tb cap l fv pv k d a ps w) := by
  have hlt := h.z.lt
  have hl := h.z.hl
  have hne1 := Nat.ne_of_lt hlt.1
  have hne2 := Nat.ne_of_lt hlt.2
  have hk := h.z.hk
  have hkc0 : tcode (l[k]'hk).1.k = 40 := by rw [hct]; rfl
  obtain ⟨vad, vcap, hpv⟩ := owns_slice h.own
  subst hpv
  have r0 := h.alloc zPart
  have cn1 : ∀ (X : World) (pv : Value) (d e a : Nat), Rz X rb tb cap l fv pv k d e a → Calls Tryz.prog 60 #[.pointer (some ⟨rb, 0, none⟩)] X fun r w' => r = .returned (rtokV (l[k]'hk)) ∧ Below X.heap.size X w' := fun X pv d e a hz => now_any hz
  have hcv : rtokV (l[k]'hk) = .agg #[.int .u8 40, .string (l[k]'hk).2, .int .i64 (((l[k]'hk).1.at_ : Nat) : Int)] := by simp [hct, tcode]
  have cf := forms_any (l[k]'hk).2
  have hsh := hwf.noshape k hk (by rw [hct]; decide)
  rw [hsh] at cf
  clear hsh
  subst hd2
  have ov2 : ∀ (X : World) (pv : Value) (d e a : Nat), Rz X rb tb cap l fv pv k d e a → e ≠ 0 → Calls Tryz.prog 100 #[.pointer (some ⟨rb, 0, none⟩), .int .u8 97, .string ⟨#[]⟩] X fun r w' => (∃ v, r = .returned v) ∧ Touch (· = rb) X w' ∧ Rz w' rb tb cap l fv pv k d e a := fun X pv d e a hz he => (over_err hz he 97 ⟨#[]⟩).mono fun r w' ⟨h1, h2⟩ => ⟨⟨_, h1⟩, h2⟩
  have ov1 := over_deep r0.z hkc0
  generalize hts : (l[k]'hk).2 = ts at *
  generalize hpp : (l[k]'hk).1.at_ = p at *
  generalize rtokV (l[k]'hk) = tv1 at *
  subst hcv
  go_enter Tryz.func148, Tryz.ntmps148
  go_wp2_with (first
    | (go_at_call 100; go_loud (refine (ov2 _ _ _ _ _ r2.z (by decide)).mono ?_; rintro r w4 ⟨⟨tv4, rfl⟩, ht4, z4⟩; have r4 := r2.touch ht4 z4; have g4 := g2.touch ht4 (Ne.symm ne3); obtain ⟨s0, s1, s2⟩ := g4.facts; have sz4 := ht4.size; (try simp at sz4); clear q0 q1 q2; have T04 : Touch (· = rb) (w.alloc zPart) w4 := ((ht1.trans (Touch.of_below hb2)).alloc _).trans ht4; have fs0 := FS.start (op := ts) (p := p) h T04 r4; obtain ⟨x0, x1, x2, x3, x4, x5, x6⟩ := fs0.rp.z.cells))
    | (go_at_call 145; refine (wrong_no r2.z (by decide) _ _).mono ?_; rintro r w9 ⟨rfl, rfl⟩)
    | (go_at_call 146; refine (cf _).mono ?_; rintro r w9 ⟨rfl, rfl⟩; simp only [formsV])
    | (go_at_call 60; go_loud (refine (cn1 _ _ _ _ _ z1).mono ?_; rintro r w2 ⟨rfl, hb2⟩; have r2 := (r1.below hb2).alloc (tokO 40 ts p); have g2 := tokO_new w2 40 ts p; obtain ⟨q0, q1, q2⟩ := g2.facts; have sz1 := ht1.size; have sz2 := hb2.size; simp at sz1; have ne3 : rb ≠ w2.heap.size := (by omega)))
    | (go_at_call 100; go_loud (refine ov1.mono ?_; rintro r w1 ⟨rfl, ht1, z1⟩; have r1 := r0.touch ht1 z1)))
  generalize hBe : ps.length + (l.length - k) - 2 = B0 at *
  generalize hPB : w4.heap.size = PB at *
  generalize w4.alloc (newPart ts p) = W at *
  clear x0 x1 x2 x3 x4 x5 x6 T04 r4 r2 r1 r0 ht1 ht4 hb2 z1 z4 g2 g4 s0 s1 s2 cn1 cf ov1 ov2 sz1 sz2 sz4 ne3
  generalize hRr : (Res.err 3 p : Res (List Ex)) = Rr at *
  obtain ⟨G, _⟩ : ∃ G : Nat, True := ⟨0, trivial⟩
  go_loopg [9] (0) (fun gh iv wr => gh = 0 ∧ FLoop base rb tb cap l fv (.slice vad ps.length vcap) ps w w.heap.size PB ts ⟨#[]⟩ p 17 a B0 G 0 Rr gh iv wr)
  case atStart => exact ⟨rfl, none, 0, [], _, _, _, _, vad, vcap, ps, rfl, fs0, (by rw [← hRr]; exact Or.inr ⟨by decide, rfl, rfl⟩)⟩
  case round =>
    obtain ⟨hgh0, kad, kcp, js, k', d', e', a', pad, pcp, ps', rfl, fs, hst⟩ := hrel
    have hk' := fs.rp.z.hk
    have hl3 := fs.rp.z.hl
    obtain ⟨c0, c1, c2, c3, c4, c5, c6⟩ := fs.rp.z.cells
    rcases hst with ⟨_, hgh, _⟩ | ⟨he, _, hR⟩
    · omega
    · -- E
      have hRR : Hid (Rr = .err e' a') := hR
      clear hR
      go_wp2_with (go_at_call 100; go_loud (refine (over_err fs.rp.z he 41 ⟨#[]⟩).mono ?_; rintro r w9 ⟨rfl, ht9, z9⟩; generalize rtokV (l[k']'hk') = tv9; have fs9 := fs.over ht9 z9; obtain ⟨o0, o1, o2, o3, o4⟩ := fs9.pp.facts; obtain ⟨b0, b1, b2, b3, b4⟩ := fs9.pr.facts; have v0 := fs9.pr.free 0; have v1 := fs9.pr.free 1; have v2 := fs9.pr.free 2; have v3 := fs9.pr.free 3; have v4 := fs9.pr.free 4; have hpr9 := fs9.hPR; have hpr8 := Ne.symm fs9.hPR))
      refine bodyPost_ret (v := partV ⟨ts, 0, ⟨#[]⟩, p, .slice kad js.length kcp⟩) (by simp [results, Tryz.results148, go_sem, b0, b1, b2, b3, b4]) rfl ?_
      obtain ⟨rfl, rfl⟩ : 3 = e' ∧ p = a' := by have := hRr.trans hRR.out; simpa using this
      exact fin_err fs9 he
set_option maxRecDepth 8000 in
set_option maxHeartbeats 8000000 in
theorem form_noword (h : Rp w base rb tb cap l fv pv k d 0 a ps) (_hwf : TokWF l) (_hsz : ps.length + (l.length - k) ≤ 3001) (hct : (l[k]'h.z.hk).1.k = .opn) (hk1 : k + 1 < l.length) (hd2 : d < 16) (hsh : shapeL (l[k + 1]'hk1).2.data.toList = none) :
    Calls Tryz.prog 148 #[.pointer (some ⟨rb, 0, none⟩)] w (fPost (.err 2 (l[k + 1]'hk1).1.at_) base rb tb cap l fv pv k d a ps w) := by
  have hlt := h.z.lt
  have hl := h.z.hl
  have hne1 := Nat.ne_of_lt hlt.1
  have hne2 := Nat.ne_of_lt hlt.2
  have hk := h.z.hk
  have hkc0 : tcode (l[k]'hk).1.k = 40 := by rw [hct]; rfl
  obtain ⟨vad, vcap, hpv⟩ := owns_slice h.own
  subst hpv
  have r0 := h.alloc zPart
  have cn1 : ∀ (X : World) (pv : Value) (d e a : Nat), Rz X rb tb cap l fv pv (k + 1) d e a → Calls Tryz.prog 60 #[.pointer (some ⟨rb, 0, none⟩)] X fun r w' => r = .returned (rtokV (l[(k + 1)]'hk1)) ∧ Below X.heap.size X w' := fun X pv d e a hz => now_any hz
  have hcv : rtokV (l[(k + 1)]'hk1) = .agg #[.int .u8 (tcode (l[k + 1]'hk1).1.k), .string (l[(k + 1)]'hk1).2, .int .i64 (((l[(k + 1)]'hk1).1.at_ : Nat) : Int)] := by rfl
  have cf := forms_any (l[(k + 1)]'hk1).2
  rw [hsh] at cf
  clear hsh
  have ov2 : ∀ (X : World) (pv : Value) (d e a : Nat), Rz X rb tb cap l fv pv (k + 1) d e a → e ≠ 0 → Calls Tryz.prog 100 #[.pointer (some ⟨rb, 0, none⟩), .int .u8 97, .string ⟨#[]⟩] X fun r w' => (∃ v, r = .returned v) ∧ Touch (· = rb) X w' ∧ Rz w' rb tb cap l fv pv (k + 1) d e a := fun X pv d e a hz he => (over_err hz he 97 ⟨#[]⟩).mono fun r w' ⟨h1, h2⟩ => ⟨⟨_, h1⟩, h2⟩
  have ov1 := over_opn r0.z hkc0 hd2 hk1
  generalize tcode (l[k + 1]'hk1).1.k = c at *
  generalize hts : (l[k + 1]'hk1).2 = ts at *
  generalize hpp : (l[k + 1]'hk1).1.at_ = p at *
  generalize rtokV (l[k + 1]'hk1) = tv1 at *
  subst hcv
  generalize rtokV (l[k]'hk) = tv0 at *
  go_enter Tryz.func148, Tryz.ntmps148
  go_wp2_with (first
    | (go_at_call 100; go_loud (refine (ov2 _ _ _ _ _ r3.z (by decide)).mono ?_; rintro r w4 ⟨⟨tv4, rfl⟩, ht4, z4⟩; have r4 := r3.touch ht4 z4; have g4 := g3.touch ht4 (Ne.symm ne3); obtain ⟨s0, s1, s2⟩ := g4.facts; have sz4 := ht4.size; (try simp at sz4); clear q0 q1 q2; have T04 : Touch (· = rb) (w.alloc zPart) w4 := (((ht1.trans (Touch.of_below hb2)).alloc _).trans ht3).trans ht4; have fs0 := FS.start (op := ts) (p := p) h T04 r4; obtain ⟨x0, x1, x2, x3, x4, x5, x6⟩ := fs0.rp.z.cells))
    | (go_at_call 145; go_loud (refine (wrong_set2 r2.z p).mono ?_; rintro r w3 ⟨rfl, ht3, z3⟩; have r3 := r2.touch ht3 z3; have g3 := g2.touch ht3 (Ne.symm ne3); have sz3 := ht3.size; simp at sz3))
    | (go_at_call 146; refine (cf _).mono ?_; rintro r w9 ⟨rfl, rfl⟩; simp only [formsV])
    | (go_at_call 60; go_loud (refine (cn1 _ _ _ _ _ z1).mono ?_; rintro r w2 ⟨rfl, hb2⟩; have r2 := (r1.below hb2).alloc (tokO c ts p); have g2 := tokO_new w2 c ts p; obtain ⟨q0, q1, q2⟩ := g2.facts; have sz1 := ht1.size; have sz2 := hb2.size; simp at sz1; have ne3 : rb ≠ w2.heap.size := (by omega)))
    | (go_at_call 100; go_loud (refine ov1.mono ?_; rintro r w1 ⟨rfl, ht1, z1⟩; have r1 := r0.touch ht1 z1)))
  generalize hBe : ps.length + (l.length - k) - 2 = B0 at *
  generalize hPB : w4.heap.size = PB at *
  generalize w4.alloc (newPart ts p) = W at *
  clear g3 r3 ht3 z3 sz3 x0 x1 x2 x3 x4 x5 x6 T04 r4 r2 r1 r0 ht1 ht4 hb2 z1 z4 g2 g4 s0 s1 s2 cn1 cf ov1 ov2 sz1 sz2 sz4 ne3
  generalize hRr : (Res.err 2 p : Res (List Ex)) = Rr at *
  obtain ⟨G, _⟩ : ∃ G : Nat, True := ⟨0, trivial⟩
  go_loopg [9] (0) (fun gh iv wr => gh = 0 ∧ FLoop base rb tb cap l fv (.slice vad ps.length vcap) ps w w.heap.size PB ts ⟨#[]⟩ p (d + 1) a B0 G 0 Rr gh iv wr)
  case atStart => exact ⟨rfl, none, 0, [], _, _, _, _, vad, vcap, ps, rfl, fs0, (by rw [← hRr]; exact Or.inr ⟨by decide, rfl, rfl⟩)⟩
  case round =>
    obtain ⟨hgh0, kad, kcp, js, k', d', e', a', pad, pcp, ps', rfl, fs, hst⟩ := hrel
    have hk' := fs.rp.z.hk
    have hl3 := fs.rp.z.hl
    obtain ⟨c0, c1, c2, c3, c4, c5, c6⟩ := fs.rp.z.cells
    rcases hst with ⟨_, hgh, _⟩ | ⟨he, _, hR⟩
    · omega
    · -- E
      have hRR : Hid (Rr = .err e' a') := hR
      clear hR
      go_wp2_with (go_at_call 100; go_loud (refine (over_err fs.rp.z he 41 ⟨#[]⟩).mono ?_; rintro r w9 ⟨rfl, ht9, z9⟩; generalize rtokV (l[k']'hk') = tv9; have fs9 := fs.over ht9 z9; obtain ⟨o0, o1, o2, o3, o4⟩ := fs9.pp.facts; obtain ⟨b0, b1, b2, b3, b4⟩ := fs9.pr.facts; have v0 := fs9.pr.free 0; have v1 := fs9.pr.free 1; have v2 := fs9.pr.free 2; have v3 := fs9.pr.free 3; have v4 := fs9.pr.free 4; have hpr9 := fs9.hPR; have hpr8 := Ne.symm fs9.hPR))
      refine bodyPost_ret (v := partV ⟨ts, 0, ⟨#[]⟩, p, .slice kad js.length kcp⟩) (by simp [results, Tryz.results148, go_sem, b0, b1, b2, b3, b4]) rfl ?_
      obtain ⟨rfl, rfl⟩ : 2 = e' ∧ p = a' := by have := hRr.trans hRR.out; simpa using this
      exact fin_err fs9 he
set_option maxRecDepth 8000 in
set_option maxHeartbeats 8000000 in
theorem form_noname (h : Rp w base rb tb cap l fv pv k d 0 a ps) (hwf : TokWF l) (_hsz : ps.length + (l.length - k) ≤ 3001) (hct : (l[k]'h.z.hk).1.k = .opn) (hk1 : k + 1 < l.length) (hd2 : d < 16) (hw1 : (l[k + 1]'hk1).1.k = .word) (sn : Int) (hsh : shapeL (l[k + 1]'hk1).2.data.toList = some (true, sn)) (hk2 : k + 1 + 1 < l.length) (hnm : isNameT (l[k + 1 + 1]'hk2).1 = false) :
    Calls Tryz.prog 148 #[.pointer (some ⟨rb, 0, none⟩)] w (fPost (.err 2 (l[k + 1 + 1]'hk2).1.at_) base rb tb cap l fv pv k d a ps w) := by
  have hlt := h.z.lt
  have hl := h.z.hl
  have hne1 := Nat.ne_of_lt hlt.1
  have hne2 := Nat.ne_of_lt hlt.2
  have hk := h.z.hk
  have hkc0 : tcode (l[k]'hk).1.k = 40 := by rw [hct]; rfl
  obtain ⟨vad, vcap, hpv⟩ := owns_slice h.own
  subst hpv
  have r0 := h.alloc zPart
  have cn1 : ∀ (X : World) (pv : Value) (d e a : Nat), Rz X rb tb cap l fv pv (k + 1) d e a → Calls Tryz.prog 60 #[.pointer (some ⟨rb, 0, none⟩)] X fun r w' => r = .returned (rtokV (l[(k + 1)]'hk1)) ∧ Below X.heap.size X w' := fun X pv d e a hz => now_any hz
  have hcv : rtokV (l[(k + 1)]'hk1) = .agg #[.int .u8 97, .string (l[(k + 1)]'hk1).2, .int .i64 (((l[(k + 1)]'hk1).1.at_ : Nat) : Int)] := by simp [hw1, tcode]
  have cf := forms_any (l[(k + 1)]'hk1).2
  rw [hsh] at cf
  have hn2 := hwf.more (k + 1) hk1 (by rw [hw1]; decide) (by rw [hw1]; decide)
  have ov2 : ∀ (X : World) (pv : Value) (d a : Nat), Rz X rb tb cap l fv pv (k + 1) d 0 a → Calls Tryz.prog 100 #[.pointer (some ⟨rb, 0, none⟩), .int .u8 97, .string ⟨#[]⟩] X fun r w' => (∃ v, r = .returned v) ∧ Touch (· = rb) X w' ∧ Rz w' rb tb cap l fv pv (k + 1 + 1) d 0 a := fun X pv d a hz => (over_word hz (by rw [hw1]; rfl) hn2).mono fun r w' ⟨h1, h2⟩ => ⟨⟨_, h1⟩, h2⟩
  have ov1 := over_opn r0.z hkc0 hd2 hk1
  have hb1w := hwf.tx _ (List.getElem_mem hk1)
  have hsb := shape_bounds hsh
  have htx2 := hwf.tx _ (List.getElem_mem hk2)
  have nm1 : ∀ (X : World) (pv : Value) (d a : Nat), Rz X rb tb cap l fv pv (k + 1 + 1) d 0 a → Calls Tryz.prog 101 #[.pointer (some ⟨rb, 0, none⟩)] X fun r w' => r = .returned (rtokV (l[k + 1 + 1]'hk2)) ∧ Touch (· = rb) X w' ∧ Rz w' rb tb cap l fv pv (k + 1 + 1) d 2 (l[k + 1 + 1]'hk2).1.at_ := fun X pv d a hz => rname_no hz hwf.tx hnm
  have hcv2 : rtokV (l[k + 1 + 1]'hk2) = .agg #[.int .u8 (tcode (l[k + 1 + 1]'hk2).1.k), .string (l[k + 1 + 1]'hk2).2, .int .i64 (((l[k + 1 + 1]'hk2).1.at_ : Nat) : Int)] := rfl
  clear htx2 hb1w
  generalize hts : (l[k + 1]'hk1).2 = ts at *
  generalize hpp : (l[k + 1]'hk1).1.at_ = p at *
  generalize rtokV (l[k + 1]'hk1) = tv1 at *
  subst hcv
  generalize rtokV (l[k]'hk) = tv0 at *
  generalize tcode (l[k + 1 + 1]'hk2).1.k = c2 at *
  generalize hts2 : (l[k + 1 + 1]'hk2).2 = ts2 at *
  generalize hpp2 : (l[k + 1 + 1]'hk2).1.at_ = p2 at *
  generalize rtokV (l[k + 1 + 1]'hk2) = tv2 at *
  subst hcv2
  go_enter Tryz.func148, Tryz.ntmps148
  go_wp2_with (first
    | (go_at_call 101; go_loud (refine (nm1 _ _ _ _ fs0.rp.z).mono ?_; rintro r w5 ⟨rfl, ht5, z5⟩; have fs5 := (fs0.over ht5 z5).below (below1 w5 (tokO c2 ts2 p2)); obtain ⟨n0, n1, n2, n3, n4⟩ := fs5.pp.facts; have u2 := fs5.pp.free 2; have u3 := fs5.pp.free 3; obtain ⟨j0, j1, j2⟩ := (tokO_new w5 c2 ts2 p2).facts; have sz5 := ht5.size; simp at sz5; have ne8 : w4.heap.size ≠ w5.heap.size := (by omega); have ne9 : w5.heap.size ≠ w4.heap.size := (by omega)))
    | (go_at_call 100; go_loud (refine (ov2 _ _ _ _ r2.z).mono ?_; rintro r w4 ⟨⟨tv4, rfl⟩, ht4, z4⟩; have r4 := r2.touch ht4 z4; have g4 := g2.touch ht4 (Ne.symm ne3); obtain ⟨s0, s1, s2⟩ := g4.facts; have sz4 := ht4.size; (try simp at sz4); clear q0 q1 q2; have T04 : Touch (· = rb) (w.alloc zPart) w4 := ((ht1.trans (Touch.of_below hb2)).alloc _).trans ht4; have fs0 := FS.start (op := ts) (p := p) h T04 r4; obtain ⟨x0, x1, x2, x3, x4, x5, x6⟩ := fs0.rp.z.cells))
    | (go_at_call 146; refine (cf _).mono ?_; rintro r w9 ⟨rfl, rfl⟩; simp only [formsV])
    | (go_at_call 60; go_loud (refine (cn1 _ _ _ _ _ z1).mono ?_; rintro r w2 ⟨rfl, hb2⟩; have r2 := (r1.below hb2).alloc (tokO 97 ts p); have g2 := tokO_new w2 97 ts p; obtain ⟨q0, q1, q2⟩ := g2.facts; have sz1 := ht1.size; have sz2 := hb2.size; simp at sz1; have ne3 : rb ≠ w2.heap.size := (by omega)))
    | (go_at_call 100; go_loud (refine ov1.mono ?_; rintro r w1 ⟨rfl, ht1, z1⟩; have r1 := r0.touch ht1 z1)))
  generalize hBe : ps.length + (l.length - k) - 2 = B0 at *
  have fs6 := fs5.name ts2 p2
  clear fs0 fs5 ht5 z5 n0 n1 n2 n3 n4 u2 u3 j0 j1 j2 sz5 ne8 ne9 nm1
  generalize hPB : w4.heap.size = PB at *
  generalize ((w5.alloc (tokO c2 ts2 p2)).setCell ⟨PB, 2, none⟩ (.string ts2)).setCell ⟨PB, 3, none⟩ (.int .i64 ((p2 : Nat) : Int)) = W at *
  have fs0 := fs6
  clear fs6
  clear x0 x1 x2 x3 x4 x5 x6 T04 r4 r2 r1 r0 ht1 ht4 hb2 z1 z4 g2 g4 s0 s1 s2 cn1 cf ov1 ov2 sz1 sz2 sz4 ne3
  generalize hRr : (Res.err 2 p2 : Res (List Ex)) = Rr at *
  obtain ⟨G, _⟩ : ∃ G : Nat, True := ⟨0, trivial⟩
  go_loopg [9] (0) (fun gh iv wr => gh = 0 ∧ FLoop base rb tb cap l fv (.slice vad ps.length vcap) ps w w.heap.size PB ts ts2 p2 (d + 1) a B0 G sn Rr gh iv wr)
  case atStart => exact ⟨rfl, none, 0, [], _, _, _, _, vad, vcap, ps, rfl, fs0, (by rw [← hRr]; exact Or.inr ⟨by decide, rfl, rfl⟩)⟩
  case round =>
    obtain ⟨hgh0, kad, kcp, js, k', d', e', a', pad, pcp, ps', rfl, fs, hst⟩ := hrel
    have hk' := fs.rp.z.hk
    have hl3 := fs.rp.z.hl
    obtain ⟨c0, c1, c2, c3, c4, c5, c6⟩ := fs.rp.z.cells
    rcases hst with ⟨_, hgh, _⟩ | ⟨he, _, hR⟩
    · omega
    · -- E
      have hRR : Hid (Rr = .err e' a') := hR
      clear hR
      go_wp2_with (go_at_call 100; go_loud (refine (over_err fs.rp.z he 41 ⟨#[]⟩).mono ?_; rintro r w9 ⟨rfl, ht9, z9⟩; generalize rtokV (l[k']'hk') = tv9; have fs9 := fs.over ht9 z9; obtain ⟨o0, o1, o2, o3, o4⟩ := fs9.pp.facts; obtain ⟨b0, b1, b2, b3, b4⟩ := fs9.pr.facts; have v0 := fs9.pr.free 0; have v1 := fs9.pr.free 1; have v2 := fs9.pr.free 2; have v3 := fs9.pr.free 3; have v4 := fs9.pr.free 4; have hpr9 := fs9.hPR; have hpr8 := Ne.symm fs9.hPR))
      refine bodyPost_ret (v := partV ⟨ts, 0, ts2, p2, .slice kad js.length kcp⟩) (by simp [results, Tryz.results148, go_sem, b0, b1, b2, b3, b4]) rfl ?_
      obtain ⟨rfl, rfl⟩ : 2 = e' ∧ p2 = a' := by have := hRr.trans hRR.out; simpa using this
      exact fin_err fs9 he
set_option maxRecDepth 8000 in
set_option maxHeartbeats 8000000 in
theorem rform_named (h : Rp w base rb tb cap l fv pv k d 0 a ps) (hwf : TokWF l) (hsz : ps.length + (l.length - k) ≤ 3001) (hct : (l[k]'h.z.hk).1.k = .opn) (hk1 : k + 1 < l.length) (hd2 : d < 16) (hw1 : (l[k + 1]'hk1).1.k = .word) (sn : Int) (hsh : shapeL (l[k + 1]'hk1).2.data.toList = some (true, sn)) (hk2 : k + 1 + 1 < l.length) (hnm : isNameT (l[k + 1 + 1]'hk2).1 = true) (hk3 : k + 1 + 1 + 1 < l.length) (G : Nat) (IH : ∀ g, g < G → ExDo base rb tb cap l fv a g) (hG : (toksAt l (k + 3)).length ≤ G) :
    Calls Tryz.prog 148 #[.pointer (some ⟨rb, 0, none⟩)] w (fPost (formR (l[k + 1]'hk1).1.body (l[k + 1 + 1]'hk2).1.body (l[k + 1 + 1]'hk2).1.at_ (pL G (d + 1) sn (toksAt l (k + 3)))) base rb tb cap l fv pv k d a ps w) := by
  have hlt := h.z.lt
  have hl := h.z.hl
  have hne1 := Nat.ne_of_lt hlt.1
  have hne2 := Nat.ne_of_lt hlt.2
  have hk := h.z.hk
  have hkc0 : tcode (l[k]'hk).1.k = 40 := by rw [hct]; rfl
  obtain ⟨vad, vcap, hpv⟩ := owns_slice h.own
  subst hpv
  have r0 := h.alloc zPart
  have cn1 : ∀ (X : World) (pv : Value) (d e a : Nat), Rz X rb tb cap l fv pv (k + 1) d e a → Calls Tryz.prog 60 #[.pointer (some ⟨rb, 0, none⟩)] X fun r w' => r = .returned (rtokV (l[(k + 1)]'hk1)) ∧ Below X.heap.size X w' := fun X pv d e a hz => now_any hz
  have hcv : rtokV (l[(k + 1)]'hk1) = .agg #[.int .u8 97, .string (l[(k + 1)]'hk1).2, .int .i64 (((l[(k + 1)]'hk1).1.at_ : Nat) : Int)] := by simp [hw1, tcode]
  have cf := forms_any (l[(k + 1)]'hk1).2
  rw [hsh] at cf
  have hn2 := hwf.more (k + 1) hk1 (by rw [hw1]; decide) (by rw [hw1]; decide)
  have ov2 : ∀ (X : World) (pv : Value) (d a : Nat), Rz X rb tb cap l fv pv (k + 1) d 0 a → Calls Tryz.prog 100 #[.pointer (some ⟨rb, 0, none⟩), .int .u8 97, .string ⟨#[]⟩] X fun r w' => (∃ v, r = .returned v) ∧ Touch (· = rb) X w' ∧ Rz w' rb tb cap l fv pv (k + 1 + 1) d 0 a := fun X pv d a hz => (over_word hz (by rw [hw1]; rfl) hn2).mono fun r w' ⟨h1, h2⟩ => ⟨⟨_, h1⟩, h2⟩
  have ov1 := over_opn r0.z hkc0 hd2 hk1
  have hb1w := hwf.tx _ (List.getElem_mem hk1)
  have hsb := shape_bounds hsh
  have htx2 := hwf.tx _ (List.getElem_mem hk2)
  have nm1 : ∀ (X : World) (pv : Value) (d a : Nat), Rz X rb tb cap l fv pv (k + 1 + 1) d 0 a → Calls Tryz.prog 101 #[.pointer (some ⟨rb, 0, none⟩)] X fun r w' => r = .returned (rtokV (l[k + 1 + 1]'hk2)) ∧ Touch (· = rb) X w' ∧ Rz w' rb tb cap l fv pv (k + 1 + 1 + 1) d 0 a := fun X pv d a hz => rname_ok hz hwf.tx hnm hk3
  have hcv2 : rtokV (l[k + 1 + 1]'hk2) = .agg #[.int .u8 (tcode (l[k + 1 + 1]'hk2).1.k), .string (l[k + 1 + 1]'hk2).2, .int .i64 (((l[k + 1 + 1]'hk2).1.at_ : Nat) : Int)] := rfl
  have hres0 : formR (l[k + 1]'hk1).1.body (l[k + 1 + 1]'hk2).1.body (l[k + 1 + 1]'hk2).1.at_ (pL G (d + 1) sn (toksAt l (k + 3))) = formR (l[k + 1]'hk1).2.data.toList (l[k + 1 + 1]'hk2).2.data.toList (l[k + 1 + 1]'hk2).1.at_ (pL G (d + 1) sn (toksAt l (k + 3))) := by rw [hb1w, htx2]
  rw [hres0]
  clear hres0 hb1w htx2
  generalize hts : (l[k + 1]'hk1).2 = ts at *
  generalize hpp : (l[k + 1]'hk1).1.at_ = p at *
  generalize rtokV (l[k + 1]'hk1) = tv1 at *
  subst hcv
  generalize rtokV (l[k]'hk) = tv0 at *
  generalize tcode (l[k + 1 + 1]'hk2).1.k = c2 at *
  generalize hts2 : (l[k + 1 + 1]'hk2).2 = ts2 at *
  generalize hpp2 : (l[k + 1 + 1]'hk2).1.at_ = p2 at *
  generalize rtokV (l[k + 1 + 1]'hk2) = tv2 at *
  subst hcv2
  go_enter Tryz.func148, Tryz.ntmps148
  go_wp2_with (first
    | (go_at_call 101; go_loud (refine (nm1 _ _ _ _ fs0.rp.z).mono ?_; rintro r w5 ⟨rfl, ht5, z5⟩; have fs5 := (fs0.over ht5 z5).below (below1 w5 (tokO c2 ts2 p2)); obtain ⟨n0, n1, n2, n3, n4⟩ := fs5.pp.facts; have u2 := fs5.pp.free 2; have u3 := fs5.pp.free 3; obtain ⟨j0, j1, j2⟩ := (tokO_new w5 c2 ts2 p2).facts; have sz5 := ht5.size; simp at sz5; have ne8 : w4.heap.size ≠ w5.heap.size := (by omega); have ne9 : w5.heap.size ≠ w4.heap.size := (by omega)))
    | (go_at_call 100; go_loud (refine (ov2 _ _ _ _ r2.z).mono ?_; rintro r w4 ⟨⟨tv4, rfl⟩, ht4, z4⟩; have r4 := r2.touch ht4 z4; have g4 := g2.touch ht4 (Ne.symm ne3); obtain ⟨s0, s1, s2⟩ := g4.facts; have sz4 := ht4.size; (try simp at sz4); clear q0 q1 q2; have T04 : Touch (· = rb) (w.alloc zPart) w4 := ((ht1.trans (Touch.of_below hb2)).alloc _).trans ht4; have fs0 := FS.start (op := ts) (p := p) h T04 r4; obtain ⟨x0, x1, x2, x3, x4, x5, x6⟩ := fs0.rp.z.cells))
    | (go_at_call 146; refine (cf _).mono ?_; rintro r w9 ⟨rfl, rfl⟩; simp only [formsV])
    | (go_at_call 60; go_loud (refine (cn1 _ _ _ _ _ z1).mono ?_; rintro r w2 ⟨rfl, hb2⟩; have r2 := (r1.below hb2).alloc (tokO 97 ts p); have g2 := tokO_new w2 97 ts p; obtain ⟨q0, q1, q2⟩ := g2.facts; have sz1 := ht1.size; have sz2 := hb2.size; simp at sz1; have ne3 : rb ≠ w2.heap.size := (by omega)))
    | (go_at_call 100; go_loud (refine ov1.mono ?_; rintro r w1 ⟨rfl, ht1, z1⟩; have r1 := r0.touch ht1 z1)))
  have hB0 : ps.length + (l.length - (k + 1 + 1 + 1)) ≤ ps.length + (l.length - k) - 2 := by omega
  generalize hBe : ps.length + (l.length - k) - 2 = B0 at *
  have fs6 := fs5.name ts2 p2
  clear fs0 fs5 ht5 z5 n0 n1 n2 n3 n4 u2 u3 j0 j1 j2 sz5 ne8 ne9 nm1
  generalize hPB : w4.heap.size = PB at *
  generalize ((w5.alloc (tokO c2 ts2 p2)).setCell ⟨PB, 2, none⟩ (.string ts2)).setCell ⟨PB, 3, none⟩ (.int .i64 ((p2 : Nat) : Int)) = W at *
  have fs0 := fs6
  clear fs6
  clear x0 x1 x2 x3 x4 x5 x6 T04 r4 r2 r1 r0 ht1 ht4 hb2 z1 z4 g2 g4 s0 s1 s2 cn1 cf ov1 ov2 sz1 sz2 sz4 ne3
  generalize hRr : pL G (d + 1) sn (toksAt l (k + 3)) = Rr at *
  go_loopg [9] (l.length - (k + 1 + 1 + 1) + 1) (fun gh iv wr => FLoop base rb tb cap l fv (.slice vad ps.length vcap) ps w w.heap.size PB ts ts2 p2 (d + 1) a B0 G sn Rr gh iv wr)
  case atStart => exact ⟨none, 0, [], _, _, _, _, vad, vcap, ps, rfl, fs0, (by rw [← hRr]; exact Or.inl ⟨rfl, rfl, rfl, rfl, List.prefix_rfl, by omega, by simp; omega, [], G, by rw [RepPs], hG, Nat.le_refl _, by simp, by simp [addE_nil]⟩)⟩
  case round =>
    obtain ⟨kad, kcp, js, k', d', e', a', pad, pcp, ps', rfl, fs, hst⟩ := hrel
    have hk' := fs.rp.z.hk
    have hl3 := fs.rp.z.hl
    obtain ⟨c0, c1, c2, c3, c4, c5, c6⟩ := fs.rp.z.cells
    rcases hst with ⟨rfl, rfl, ha', rfl, hpre, hB, hj, es, f, hrep, hf1, hf2, hm, hR⟩ | ⟨he, rfl, hR⟩
    · obtain rfl := ha'.symm
      have hfp : 0 < f := by rw [toksAt_len] at hf1; omega
      obtain ⟨f, rfl⟩ : ∃ f', f = f' + 1 := ⟨f - 1, by omega⟩
      have htc := toksAt_cons hk'
      have hbase := fs.ht.size
      by_cases hneg : sn < 0
      · rw [if_pos hneg] at hR
        have hnj : ¬ ((js.length : Int) = sn) := by omega
        by_cases hcls : (l[k']'hk').1.k = .cls
        · -- A
          have hRR : Hid (Rr = .ok es (toksAt l (k' + 1))) := by
            show _ = _
            rw [hR, htc, pL_close (Or.inr ⟨hneg, hcls⟩), if_pos hcls]
            simp [addE]
          have hn9 := hwf.more k' hk' (by rw [hcls]; decide) (by rw [hcls]; decide)
          have hkc9 : tcode (l[k']'hk').1.k = 41 := by rw [hcls]; rfl
          have hcv9 : rtokV (l[k']'hk') = .agg #[.int .u8 41, .string (l[k']'hk').2, .int .i64 (((l[k']'hk').1.at_ : Nat) : Int)] := by rw [← hkc9]
          have cn9 := now_any fs.rp.z
          rw [hcv9] at cn9
          have fsA := fs
          clear hR htc hf1 hm
          go_wp2_with (first
            | (go_at_call 60; go_loud (refine cn9.mono ?_; rintro r w8 ⟨rfl, hb8⟩; have fs8 := fsA.below hb8))
            | (go_at_call 100; go_loud (refine (over_cls fs8.rp.z hkc9 hn9).mono ?_; rintro r w9 ⟨rfl, ht9, z9⟩; generalize rtokV (l[k']'hk') = tv9; have fs9 := fs8.over ht9 z9; obtain ⟨o0, o1, o2, o3, o4⟩ := fs9.pp.facts; obtain ⟨b0, b1, b2, b3, b4⟩ := fs9.pr.facts; have v0 := fs9.pr.free 0; have v1 := fs9.pr.free 1; have v2 := fs9.pr.free 2; have v3 := fs9.pr.free 3; have v4 := fs9.pr.free 4; have hpr9 := fs9.hPR; have hpr8 := Ne.symm fs9.hPR)))
          refine bodyPost_ret (v := partV ⟨ts, 0, ts2, p2, .slice kad js.length kcp⟩) (by simp [results, Tryz.results148, go_sem, b0, b1, b2, b3, b4]) rfl ?_
          rw [hRR.out]
          exact fin_ok2 fs fs9 (Touch.trans (Touch.of_below hb8) ht9) rfl hpre hrep (row_not_box fs.pr (by decide)) (by omega)
        · -- C
          have hRS : Aside (Rr = addE es (stepR f (d + 1) (if sn < 0 then sn else sn - js.length) (pE (pL f) (d + 1) (toksAt l k')))) := by
            show _ = _
            rw [hR, htc, pL_step (by omega) (fun _ => hcls)]
            rw [if_pos hneg]
          have IHf := IH f (by omega)
          have hm2 : 0 ≤ sn → (js.length : Int) + 1 ≤ sn := by omega
          have hFS : Aside (FS base rb tb cap l fv (.slice vad ps.length vcap) ps w w.heap.size PB ts ts2 p2 wr kad kcp js k' (d + 1) 0 a pad pcp ps') := fs
          have hRP : Aside (RepPs wr (fun g => w.heap.size ≤ g ∧ some g ≠ (Value.slice pad ps'.length pcp).ownBlock ∧ some g ≠ (Value.slice kad js.length kcp).ownBlock ∧ g ≠ PB) ps' ps.length es js) := hrep
          have F1 : Aside ((toksAt l k').length ≤ f + 1) := hf1
          have PP : Aside (ps <+: ps') := hpre
          have hkc9 : ((tcode (l[k']'hk').1.k) == 41) = false := beq_no fun e => hcls ((tcode_cls _).1 e)
          have cn9 := now_any fs.rp.z
          have hcv9 : rtokV (l[k']'hk') = .agg #[.int .u8 (tcode (l[k']'hk').1.k), .string (l[k']'hk').2, .int .i64 (((l[k']'hk').1.at_ : Nat) : Int)] := rfl
          rw [hcv9] at cn9
          generalize tcode (l[k']'hk').1.k = tk9 at *
          generalize (l[k']'hk').2 = ts9 at *
          generalize (l[k']'hk').1.at_ = ta9 at *
          clear hR htc hf1 hm hrep hcls hcv9
          go_wp2_with (first
            | (go_at_call 60; go_loud (refine cn9.mono ?_; rintro r w8 ⟨rfl, hb8⟩; have fs8 := fs.below hb8; have sz8 := hb8.size))
            | (go_at_call 102; go_loud (refine (ex_both IHf fs8.rp (by omega) (by have := F1.out; omega)).mono ?_; rintro r w2 ⟨k2, d2, e2, a2, qad, qcp, qs, rfl, ht2, rp2, hlen2, mv2, H2⟩; have pp2 := fs8.pp.touch ht2 (by rintro (g | g); (exact absurd g (by have := fs.hP; have := fs.hw; omega)); (exact fs.nP g)); obtain ⟨o0, o1, o2, o3, o4⟩ := pp2.facts; have ko2 := fs8.kept2 ht2))
            | (at_builtin; go_loud (obtain ⟨i0, hi, hz0, hz1, hz2⟩ := info_parts Tryz.infoIntR; refine wpList_append_own_at _ rfl _ _ 28 rfl w.heap.size 3 i0 _ 1 8 Tryz.underlying28 hi hz0 hz1 hz2 rfl (by decide) _ _ _ rfl (ko2.alloc _) ⟨w2.heap.size, 0, none⟩ 1 1 [.int .i64 ((ps'.length : Nat) : Int)] rfl rfl (cell_one_new _ _ _) (fun x hx => by simp at hx; subst hx; rfl) (by unfold maxLen; omega) (by omega) (by have := ht2.size; simp; omega) ?_; intro v' w3 own3 hg3 hnil3 hat3; clear hi hz0 hz1 hz2; obtain ⟨kad2, kcp2, rfl⟩ := owns_slice own3; have KID := fs8.kid ht2 rp2 hlen2 mv2 own3 hg3 hat3; obtain ⟨s0, s1, s2, s3, s4⟩ := KID.2.1.facts; have u4 := KID.2.1.free 4)))
          have NX : Aside _ := FLoop.next (m := sn) (B0 := B0) (G := G) (Rr := Rr) fs8 KID.1 KID.2.2.1 KID.2.2.2.1 KID.2.2.2.2 mv2 ht2.size PP.out (by omega) (by omega) (RepPs.map (lo := ps.length) (fun i q _ hq => hq) (Nat.le_refl _) (fun sl n vs hr => row_below hr hb8) hRP.out) F1.out hf2 hm2 hRS.out H2.out
          obtain ⟨gh, hgh, hfl⟩ := NX.out
          go_roundg gh
          case measure => exact hgh
          case rel => (first | exact hfl | (have e : ((js ++ [ps'.length]).length : Int) = (js.length : Int) + 1 := (by simp); rw [e] at hfl; exact hfl))
      · rw [if_neg hneg] at hR
        by_cases hij : (js.length : Int) = sn
        · by_cases hcls : (l[k']'hk').1.k = .cls
          · -- B1
            have hRR : Hid (Rr = .ok es (toksAt l (k' + 1))) := by
              show _ = _
              rw [hR, htc, pL_close (Or.inl (by omega)), if_pos hcls]
              simp [addE]
            have hn9 := hwf.more k' hk' (by rw [hcls]; decide) (by rw [hcls]; decide)
            have hkc9 : tcode (l[k']'hk').1.k = 41 := by rw [hcls]; rfl
            clear hR htc hf1 hm
            go_wp2_with (go_at_call 100; go_loud (refine (over_cls fs.rp.z hkc9 hn9).mono ?_; rintro r w9 ⟨rfl, ht9, z9⟩; generalize rtokV (l[k']'hk') = tv9; have fs9 := fs.over ht9 z9; obtain ⟨o0, o1, o2, o3, o4⟩ := fs9.pp.facts; obtain ⟨b0, b1, b2, b3, b4⟩ := fs9.pr.facts; have v0 := fs9.pr.free 0; have v1 := fs9.pr.free 1; have v2 := fs9.pr.free 2; have v3 := fs9.pr.free 3; have v4 := fs9.pr.free 4; have hpr9 := fs9.hPR; have hpr8 := Ne.symm fs9.hPR))
            refine bodyPost_ret (v := partV ⟨ts, 0, ts2, p2, .slice kad js.length kcp⟩) (by simp [results, Tryz.results148, go_sem, b0, b1, b2, b3, b4]) rfl ?_
            rw [hRR.out]
            exact fin_ok2 fs fs9 ht9 rfl hpre hrep (row_not_box fs.pr (by decide)) (by omega)
          · -- B2
            have hRR : Hid (Rr = .err 2 (l[k']'hk').1.at_) := by
              show _ = _
              rw [hR, htc, pL_close (Or.inl (by omega)), if_neg hcls]
              rfl
            have hkc9 : tcode (l[k']'hk').1.k ≠ 41 := fun e => hcls ((tcode_cls _).1 e)
            clear hR htc hf1 hm
            go_wp2_with (go_at_call 100; go_loud (refine (over_kind fs.rp.z 41 ⟨#[]⟩ hkc9).mono ?_; rintro r w9 ⟨rfl, ht9, z9⟩; generalize rtokV (l[k']'hk') = tv9; have fs9 := fs.over ht9 z9; obtain ⟨o0, o1, o2, o3, o4⟩ := fs9.pp.facts; obtain ⟨b0, b1, b2, b3, b4⟩ := fs9.pr.facts; have v0 := fs9.pr.free 0; have v1 := fs9.pr.free 1; have v2 := fs9.pr.free 2; have v3 := fs9.pr.free 3; have v4 := fs9.pr.free 4; have hpr9 := fs9.hPR; have hpr8 := Ne.symm fs9.hPR))
            refine bodyPost_ret (v := partV ⟨ts, 0, ts2, p2, .slice kad js.length kcp⟩) (by simp [results, Tryz.results148, go_sem, b0, b1, b2, b3, b4]) rfl ?_
            rw [hRR.out]
            exact fin_err fs9 (by decide)
        · -- D
          have hRS : Aside (Rr = addE es (stepR f (d + 1) (if sn < 0 then sn else sn - js.length) (pE (pL f) (d + 1) (toksAt l k')))) := by
            show _ = _
            rw [hR, htc, pL_step (by omega) (fun h => absurd h (by have := hm (by omega); omega))]
            rw [if_neg hneg]
          have IHf := IH f (by omega)
          have hm2 : 0 ≤ sn → (js.length : Int) + 1 ≤ sn := by intro _; have := hm (by omega); omega
          have hFS : Aside (FS base rb tb cap l fv (.slice vad ps.length vcap) ps w w.heap.size PB ts ts2 p2 wr kad kcp js k' (d + 1) 0 a pad pcp ps') := fs
          have hRP : Aside (RepPs wr (fun g => w.heap.size ≤ g ∧ some g ≠ (Value.slice pad ps'.length pcp).ownBlock ∧ some g ≠ (Value.slice kad js.length kcp).ownBlock ∧ g ≠ PB) ps' ps.length es js) := hrep
          have F1 : Aside ((toksAt l k').length ≤ f + 1) := hf1
          have PP : Aside (ps <+: ps') := hpre
          clear hR htc hf1 hm hrep
          go_wp2_with (first
            | (go_at_call 102; go_loud (refine (ex_both IHf fs.rp (by omega) (by have := F1.out; omega)).mono ?_; rintro r w2 ⟨k2, d2, e2, a2, qad, qcp, qs, rfl, ht2, rp2, hlen2, mv2, H2⟩; have pp2 := fs.pp.touch ht2 (by rintro (g | g); (exact absurd g (by have := fs.hP; have := fs.hw; omega)); (exact fs.nP g)); obtain ⟨o0, o1, o2, o3, o4⟩ := pp2.facts; have ko2 := fs.kept2 ht2))
            | (at_builtin; go_loud (obtain ⟨i0, hi, hz0, hz1, hz2⟩ := info_parts Tryz.infoIntR; refine wpList_append_own_at _ rfl _ _ 28 rfl w.heap.size 3 i0 _ 1 8 Tryz.underlying28 hi hz0 hz1 hz2 rfl (by decide) _ _ _ rfl (ko2.alloc _) ⟨w2.heap.size, 0, none⟩ 1 1 [.int .i64 ((ps'.length : Nat) : Int)] rfl rfl (cell_one_new _ _ _) (fun x hx => by simp at hx; subst hx; rfl) (by unfold maxLen; omega) (by omega) (by have := ht2.size; simp; omega) ?_; intro v' w3 own3 hg3 hnil3 hat3; clear hi hz0 hz1 hz2; obtain ⟨kad2, kcp2, rfl⟩ := owns_slice own3; have KID := fs.kid ht2 rp2 hlen2 mv2 own3 hg3 hat3; obtain ⟨s0, s1, s2, s3, s4⟩ := KID.2.1.facts; have u4 := KID.2.1.free 4)))
          have NX : Aside _ := FLoop.next (m := sn) (B0 := B0) (G := G) (Rr := Rr) fs KID.1 KID.2.2.1 KID.2.2.2.1 KID.2.2.2.2 mv2 ht2.size PP.out (by omega) (by omega) hRP.out F1.out hf2 hm2 hRS.out H2.out
          obtain ⟨gh, hgh, hfl⟩ := NX.out
          go_roundg gh
          case measure => exact hgh
          case rel => (first | exact hfl | (have e : ((js ++ [ps'.length]).length : Int) = (js.length : Int) + 1 := (by simp); rw [e] at hfl; exact hfl))
    · -- E
      have hRR : Hid (Rr = .err e' a') := hR
      clear hR
      go_wp2_with (go_at_call 100; go_loud (refine (over_err fs.rp.z he 41 ⟨#[]⟩).mono ?_; rintro r w9 ⟨rfl, ht9, z9⟩; generalize rtokV (l[k']'hk') = tv9; have fs9 := fs.over ht9 z9; obtain ⟨o0, o1, o2, o3, o4⟩ := fs9.pp.facts; obtain ⟨b0, b1, b2, b3, b4⟩ := fs9.pr.facts; have v0 := fs9.pr.free 0; have v1 := fs9.pr.free 1; have v2 := fs9.pr.free 2; have v3 := fs9.pr.free 3; have v4 := fs9.pr.free 4; have hpr9 := fs9.hPR; have hpr8 := Ne.symm fs9.hPR))
      refine bodyPost_ret (v := partV ⟨ts, 0, ts2, p2, .slice kad js.length kcp⟩) (by simp [results, Tryz.results148, go_sem, b0, b1, b2, b3, b4]) rfl ?_
      rw [hRR.out]
      exact fin_err fs9 he
end
end Go.Proofs.YtdiefbahmcihlaaGreatDoor
