/-
  The reference: form and expr, at all tokens.
-/
import Derived.Test.YtdiefbahmcihlaaGreatDoorRefG
import Derived.Test.YtdiefbahmcihlaaGreatDoorRefH
namespace Go.Proofs.YtdiefbahmcihlaaGreatDoor
open Go.RowKit

section
variable {w : World} {base rb tb cap : Nat} {l : List (Tok × ByteArray)} {fv pv : Value} {k d e a : Nat} {ps : List PartV}
theorem rform_any {G : Nat} (IH : ∀ g, g < G → ExDo base rb tb cap l fv a g) (hwf : TokWF l) (h : Rp w base rb tb cap l fv pv k d 0 a ps) (hsz : ps.length + (l.length - k) ≤ 3001) (hct : (l[k]'h.z.hk).1.k = .opn) (hG : (toksAt l k).length ≤ G + 2) :
    Calls Tryz.prog 148 #[.pointer (some ⟨rb, 0, none⟩)] w (fPost (if d = 16 then .err 3 (l[k]'h.z.hk).1.at_ else pF (pL G) (d + 1) (toksAt l (k + 1))) base rb tb cap l fv pv k d a ps w) := by
  have hk := h.z.hk
  have hk1 := hwf.more k hk (by rw [hct]; decide) (by rw [hct]; decide)
  rw [toksAt_len] at hG
  by_cases hd : d = 16
  · rw [if_pos hd]
    exact form_deep h hwf hsz hct hk1 hd
  · rw [if_neg hd]
    have hd2 : d < 16 := by have := h.z.hd; omega
    have hb1 := hwf.tx _ (List.getElem_mem hk1)
    rw [toksAt_cons hk1]
    by_cases hw1 : (l[k + 1]'hk1).1.k = .word
    · cases hs : shapeL (l[k + 1]'hk1).1.body with
      | none =>
        have e : pF (pL G) (d + 1) ((l[k + 1]'hk1).1 :: toksAt l (k + 1 + 1)) = .err 2 (l[k + 1]'hk1).1.at_ := by simp [pF, shapeT, hw1, hs]
        rw [e]
        exact form_noword h hwf hsz hct hk1 hd2 (by rw [hb1]; exact hs)
      | some x =>
        obtain ⟨b, n⟩ := x
        cases b with
        | false =>
          have e : pF (pL G) (d + 1) ((l[k + 1]'hk1).1 :: toksAt l (k + 1 + 1)) = formR (l[k + 1]'hk1).1.body [] (l[k + 1]'hk1).1.at_ (pL G (d + 1) n (toksAt l (k + 2))) := by simp [pF, shapeT, hw1, hs]
          rw [e]
          exact rform_plain h hwf hsz hct hk1 hd2 hw1 n (by rw [hb1]; exact hs) G IH (by rw [toksAt_len]; omega)
        | true =>
          have hk2 := hwf.more (k + 1) hk1 (by rw [hw1]; decide) (by rw [hw1]; decide)
          rw [toksAt_cons hk2]
          cases hnm : isNameT (l[k + 1 + 1]'hk2).1 with
          | false =>
            have e : pF (pL G) (d + 1) ((l[k + 1]'hk1).1 :: (l[k + 1 + 1]'hk2).1 :: toksAt l (k + 1 + 1 + 1)) = .err 2 (l[k + 1 + 1]'hk2).1.at_ := by simp [pF, shapeT, hw1, hs, hnm]
            rw [e]
            exact form_noname h hwf hsz hct hk1 hd2 hw1 n (by rw [hb1]; exact hs) hk2 hnm
          | true =>
            have hw2 : (l[k + 1 + 1]'hk2).1.k = .word := by
              simp only [isNameT, Bool.and_eq_true, decide_eq_true_eq] at hnm
              exact hnm.1
            have hk3 := hwf.more (k + 1 + 1) hk2 (by rw [hw2]; decide) (by rw [hw2]; decide)
            have e : pF (pL G) (d + 1) ((l[k + 1]'hk1).1 :: (l[k + 1 + 1]'hk2).1 :: toksAt l (k + 1 + 1 + 1)) = formR (l[k + 1]'hk1).1.body (l[k + 1 + 1]'hk2).1.body (l[k + 1 + 1]'hk2).1.at_ (pL G (d + 1) n (toksAt l (k + 3))) := by simp [pF, shapeT, hw1, hs, hnm]
            rw [e]
            exact rform_named h hwf hsz hct hk1 hd2 hw1 n (by rw [hb1]; exact hs) hk2 hnm hk3 G IH (by rw [toksAt_len]; omega)
    · have e : pF (pL G) (d + 1) ((l[k + 1]'hk1).1 :: toksAt l (k + 1 + 1)) = .err 2 (l[k + 1]'hk1).1.at_ := by simp [pF, shapeT, hw1]
      rw [e]
      exact form_noword h hwf hsz hct hk1 hd2 (hwf.noshape (k + 1) hk1 hw1)
theorem expr_step {G : Nat} (IH : ∀ g, g < G → ExDo base rb tb cap l fv a g) (hwf : TokWF l) : ExDo base rb tb cap l fv a G := by
  intro w pv ps k d h hsz hG
  have hk := h.z.hk
  rw [toksAt_cons hk]
  cases hct : (l[k]'hk).1.k with
  | num => simp only [pE, hct]; exact expr_num h hwf hsz hct
  | txt => simp only [pE, hct]; exact expr_txt h hwf hsz hct
  | word =>
    simp only [pE, hct]
    cases hr : reservedL (l[k]'hk).1.body with
    | true =>
      simp only [if_true]
      exact expr_noname h hwf hsz 97 (by rw [hct]; rfl) rfl rfl rfl (by simp [isNameT, hct, hr])
    | false =>
      simp only [Bool.false_eq_true, if_false]
      exact expr_name h hwf hsz hct (by simp [isNameT, hct, hr])
  | opn =>
    simp only [pE, hct]
    have cf : ∀ (X : World) (pv' : Value) (qs : List PartV), Rp X base rb tb cap l fv pv' k d 0 a qs → qs.length + (l.length - k) ≤ 3001 → Calls Tryz.prog 148 #[.pointer (some ⟨rb, 0, none⟩)] X (fPost (if d = 16 then .err 3 (l[k]'hk).1.at_ else pF (pL G) (d + 1) (toksAt l (k + 1))) base rb tb cap l fv pv' k d a qs X) :=
      fun X pv' qs hX hq => rform_any IH hwf hX hq hct hG
    generalize (if d = 16 then Res.err 3 (l[k]'hk).1.at_ else pF (pL G) (d + 1) (toksAt l (k + 1))) = R at *
    cases R with
    | err c q => exact expr_form_err h hwf hsz hct c q cf
    | ok ex rest => exact expr_form_ok h hwf hsz hct ex rest cf
  | eof =>
    simp only [pE, hct]
    exact expr_noname h hwf hsz 0 (by rw [hct]; rfl) rfl rfl rfl (by simp [isNameT, hct])
  | cls =>
    simp only [pE, hct]
    exact expr_noname h hwf hsz 41 (by rw [hct]; rfl) rfl rfl rfl (by simp [isNameT, hct])
  | bad =>
    simp only [pE, hct]
    exact expr_noname h hwf hsz 120 (by rw [hct]; rfl) rfl rfl rfl (by simp [isNameT, hct])
theorem expr_all (hwf : TokWF l) : ∀ G, ExDo base rb tb cap l fv a G := fun G => by
  induction G using Nat.strongRecOn with
  | _ G ih => exact expr_step (fun g hg => ih g hg) hwf
end
end Go.Proofs.YtdiefbahmcihlaaGreatDoor
