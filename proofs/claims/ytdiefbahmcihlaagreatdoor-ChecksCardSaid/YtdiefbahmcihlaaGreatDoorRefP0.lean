/-
  The reference: Read: plain facts: tokens are well formed; which numbers errors have.
-/
import Derived.Test.YtdiefbahmcihlaaGreatDoorRefO
import Derived.Test.YtdiefbahmcihlaaGreatDoorRefB
import Derived.Test.YtdiefbahmcihlaaGreatDoorRefI
import Derived.Test.YtdiefbahmcihlaaGreatDoorRefJ
namespace Go.Proofs.YtdiefbahmcihlaaGreatDoor
open Go.RowKit

theorem isToks_at {s : List UInt8} : ∀ {p : Nat} {ts : List Tok}, IsToks s p ts → p ≤ s.length → ∀ j (hj : j < ts.length), ∃ q, q ≤ s.length ∧ ts[j] = nextTok s q ∧ (ts[j].k ≠ .eof → ts[j].k ≠ .bad → j + 1 < ts.length) := by
  intro p ts h
  induction h with
  | last h0 =>
    intro hp j hj
    simp at hj
    subst hj
    refine ⟨_, hp, rfl, fun h1 h2 => ?_⟩
    rcases h0 with h0 | h0
    · exact absurd h0 h1
    · exact absurd h0 h2
  | @more p ts h1 h2 h3 ih =>
    intro hp j hj
    obtain ⟨g1, g2, _⟩ := nextTok_len s p hp h1 h2
    cases j with
    | zero => exact ⟨p, hp, rfl, fun _ _ => by obtain ⟨t, r, rfl⟩ := h3.ne; simp⟩
    | succ j =>
      obtain ⟨q, q1, q2, q3⟩ := ih g2 j (by simpa using hj)
      exact ⟨q, q1, q2, fun a b => by have := q3 a b; simp; omega⟩
theorem measureL_bad (l : List UInt8) (h : (measureL l).1 = .bad) : (measureL l).2 = 0 := by
  cases l with
  | nil => simp [measureL] at h
  | cons c r =>
    simp only [measureL] at h ⊢
    have kb : ∀ (k : K) (o : Option Nat), k ≠ .bad → (kindOf k o).1 = .bad → (kindOf k o).2 = 0 := by
      intro k o hk hh
      cases o with
      | none => rfl
      | some n => exact absurd hh hk
    split at h
    · cases h
    split at h
    · cases h
    rename_i a1 a2
    simp only [a1, a2, if_false, Bool.false_eq_true]
    split at h
    · rename_i a3; simp only [a3, if_true]; exact kb _ _ (by decide) h
    split at h
    · rename_i a3 a4; simp only [a3, a4, if_true, if_false, Bool.false_eq_true]; exact kb _ _ (by decide) h
    split at h
    · rename_i a3 a4 a5; simp only [a3, a4, a5, if_true, if_false, Bool.false_eq_true]; exact kb _ _ (by decide) h
    · rename_i a3 a4 a5; simp only [a3, a4, a5, if_false, Bool.false_eq_true]
theorem measure_head {c : UInt8} {r : List UInt8} (h1 : (measureL (c :: r)).1 ≠ .word) (h2 : (measureL (c :: r)).1 ≠ .bad) : letter c = false := by
  cases hl : letter c with
  | false => rfl
  | true =>
    obtain ⟨b1, b2, b3, b4, b5⟩ := letter_not hl
    exfalso
    simp only [measureL, b1, b2, b3, b4, b5, hl, Bool.false_or, Bool.false_eq_true, if_false, if_true] at h1 h2
    cases hw : wordL (c :: r) with
    | none => rw [hw] at h2; exact h2 rfl
    | some n => rw [hw] at h1; exact h1 rfl
theorem shape_letter {b : List UInt8} {x : Bool × Int} (h : shapeL b = some x) : ∃ c r, b = c :: r ∧ letter c = true := by
  rcases shape_cases b with g | g | g | g | g | g | g | g | g | g | g | g | g | g | ⟨g, _⟩
  all_goals first
    | (subst g; exact ⟨_, _, rfl, by decide⟩)
    | (rw [g] at h; cases h)
theorem next_noshape (s : List UInt8) (q : Nat) (h : (nextTok s q).k ≠ .word) : shapeL (nextTok s q).body = none := by
  cases hs : shapeL (nextTok s q).body with
  | none => rfl
  | some x =>
    exfalso
    obtain ⟨c, r, hb, hc⟩ := shape_letter hs
    simp only [nextTok] at h hb
    cases hd : s.drop (q + runL blank (s.drop q)) with
    | nil => rw [hd] at hb; simp at hb
    | cons c2 r2 =>
      rw [hd] at h hb
      by_cases hbad : (measureL (c2 :: r2)).1 = .bad
      · rw [measureL_bad _ hbad] at hb; simp at hb
      · have hl := measure_head h hbad
        cases hn : (measureL (c2 :: r2)).2 with
        | zero => rw [hn] at hb; simp at hb
        | succ n =>
          rw [hn] at hb
          simp at hb
          rw [← hb.1, hl] at hc
          cases hc
/-- Tokens of a text are well formed. -/
theorem tokWF_of {s : ByteArray} (hs : s.size ≤ 2000) {l : List (Tok × ByteArray)} (hts : IsToks s.data.toList 0 (l.map (·.1))) (htx : TokTexts l) : TokWF l := by
  have key : ∀ j (hj : j < l.length), ∃ q, q ≤ s.data.toList.length ∧ l[j].1 = nextTok s.data.toList q ∧ (l[j].1.k ≠ .eof → l[j].1.k ≠ .bad → j + 1 < l.length) := by
    intro j hj
    obtain ⟨q, h1, h2, h3⟩ := isToks_at hts (Nat.zero_le _) j (by simpa using hj)
    simp only [List.getElem_map, List.length_map] at h2 h3
    exact ⟨q, h1, h2, h3⟩
  have hsz : ∀ j (hj : j < l.length), l[j].2.size = l[j].1.body.length := fun j hj => by
    rw [← htx _ (List.getElem_mem hj), len_d]
  have hle : ∀ q, (nextTok s.data.toList q).body.length ≤ s.size := fun q => by
    simp only [nextTok, List.length_take, List.length_drop, len_d]; omega
  refine ⟨htx, fun j hj h1 h2 => ?_, fun j hj hk => ?_, fun j hj hk => ?_, fun j hj => ?_, fun j hj hk => ?_⟩
  · obtain ⟨q, _, _, h3⟩ := key j hj; exact h3 h1 h2
  · obtain ⟨q, h1, h2, _⟩ := key j hj
    rw [htx _ (List.getElem_mem hj), h2]
    rw [h2] at hk
    exact (nextTok_lit _ _).1 hk
  · obtain ⟨q, h1, h2, _⟩ := key j hj
    rw [hsz j hj, h2]
    rw [h2] at hk
    have := measureL_pos (s.data.toList.drop (q + runL blank (s.data.toList.drop q))) (by rw [show (measureL _).1 = K.txt from hk]; decide) (by rw [show (measureL _).1 = K.txt from hk]; decide)
    have h2 := measureL_txt _ hk
    simp only [nextTok, List.length_take]; omega
  · obtain ⟨q, h1, h2, _⟩ := key j hj
    rw [hsz j hj, h2]; have := hle q; omega
  · obtain ⟨q, h1, h2, _⟩ := key j hj
    rw [htx _ (List.getElem_mem hj), h2]
    rw [h2] at hk
    exact next_noshape _ _ hk
mutual
theorem nmE_code46 (fs : List (List UInt8 × Nat)) (sc : List (List UInt8)) : ∀ (e : Ex) (c p : Nat), nmE fs sc e = some (c, p) → c = 4 ∨ c = 6
  | .num _, c, p, h => by rw [nmE] at h; cases h
  | .txt _, c, p, h => by rw [nmE] at h; cases h
  | .var n a, c, p, h => by
    rw [nmE] at h
    split at h
    · cases h
    · cases h; exact Or.inl rfl
  | .form w n a ks, c, p, h => by
    have hce : ∀ {k : Nat}, callErr fs n a k = some (c, p) → c = 4 ∨ c = 6 := by
      intro k hk
      unfold callErr at hk
      split at hk
      · cases hk; exact Or.inl rfl
      · split at hk
        · cases hk
        · cases hk; exact Or.inr rfl
    rw [nmE] at h
    split at h
    · rcases orE_code h with g | g
      · exact hce g
      · exact nmEs_code46 fs sc ks c p g
    · split at h
      · cases ks with
        | nil => rw [nmLet] at h; cases h
        | cons x r =>
          rw [nmLet] at h
          rcases orE_code h with g | g
          · exact nmE_code46 fs sc x c p g
          · exact nmEs_code46 fs _ r c p g
      · exact nmEs_code46 fs sc ks c p h
theorem nmEs_code46 (fs : List (List UInt8 × Nat)) (sc : List (List UInt8)) : ∀ (es : List Ex) (c p : Nat), nmEs fs sc es = some (c, p) → c = 4 ∨ c = 6
  | [], c, p, h => by rw [nmEs] at h; cases h
  | e :: es, c, p, h => by
    rw [nmEs] at h
    rcases orE_code h with g | g
    · exact nmE_code46 fs sc e c p g
    · exact nmEs_code46 fs sc es c p g
end
theorem nmFn_code (fs : List (List UInt8 × Nat)) (fn : Fn) (c p : Nat) (h : nmFn fs fn = some (c, p)) : codeN c = c := by
  unfold nmFn at h
  split at h
  · cases h; rfl
  · split at h
    · cases h; rfl
    · rcases nmE_code46 _ _ _ _ _ h with rfl | rfl <;> rfl
end Go.Proofs.YtdiefbahmcihlaaGreatDoor

/-
  The reference: Read: plain facts on sizes and error numbers; the loop over functions.
-/
namespace Go.Proofs.YtdiefbahmcihlaaGreatDoor
open Go.RowKit

theorem r_suf_cons {α : Type} {r ts : List α} (t : α) (h : r <:+ ts) : r <:+ t :: ts := h.trans (List.suffix_cons t ts)
theorem r_pF_sz {L : Nat → Int → List Tok → Res (List Ex)} (hL : ∀ d m ts es r, L d m ts = .ok es r → szEs es + 2 * r.length + 2 ≤ 2 * ts.length ∧ r <:+ ts) {d : Nat} {ts : List Tok} {e : Ex} {r : List Tok} (h : pF L d ts = .ok e r) : szE e + 1 + 2 * r.length ≤ 2 * ts.length ∧ r <:+ ts := by
  cases ts with
  | nil => cases h
  | cons t ts =>
    simp only [pF] at h
    split at h
    · cases h
    · rename_i n _
      cases g : L d n ts with
      | err c a => rw [g] at h; cases h
      | ok ks r' =>
        rw [g] at h
        cases h
        obtain ⟨h1, h2⟩ := hL _ _ _ _ _ g
        refine ⟨?_, r_suf_cons t h2⟩
        simp [szE]; omega
    · rename_i n _
      cases ts with
      | nil => cases h
      | cons u us =>
        simp only at h
        split at h
        · cases g : L d n us with
          | err c a => rw [g] at h; cases h
          | ok ks r' =>
            rw [g] at h
            cases h
            obtain ⟨h1, h2⟩ := hL _ _ _ _ _ g
            refine ⟨?_, r_suf_cons t (r_suf_cons u h2)⟩
            simp [szE]; omega
        · cases h
theorem r_pE_sz {L : Nat → Int → List Tok → Res (List Ex)} (hL : ∀ d m ts es r, L d m ts = .ok es r → szEs es + 2 * r.length + 2 ≤ 2 * ts.length ∧ r <:+ ts) {d : Nat} {ts : List Tok} {e : Ex} {r : List Tok} (h : pE L d ts = .ok e r) : szE e + 1 + 2 * r.length ≤ 2 * ts.length ∧ r <:+ ts := by
  cases ts with
  | nil => cases h
  | cons t ts =>
    simp only [pE] at h
    split at h
    · cases h; exact ⟨by simp [szE]; omega, List.suffix_cons _ _⟩
    · cases h; exact ⟨by simp [szE]; omega, List.suffix_cons _ _⟩
    · split at h
      · cases h
      · cases h; exact ⟨by simp [szE]; omega, List.suffix_cons _ _⟩
    · split at h
      · cases h
      · obtain ⟨h1, h2⟩ := r_pF_sz hL h
        refine ⟨?_, r_suf_cons t h2⟩
        simp; omega
    · cases h
theorem r_pL_sz : ∀ (f d : Nat) (m : Int) (ts : List Tok) (es : List Ex) (r : List Tok), pL f d m ts = .ok es r → szEs es + 2 * r.length + 2 ≤ 2 * ts.length ∧ r <:+ ts
  | 0, _, _, _, _, _, h => by cases h
  | f + 1, _, _, [], _, _, h => by cases h
  | f + 1, d, m, t :: ts, es, r, h => by
    simp only [pL] at h
    split at h
    · split at h
      · cases h; exact ⟨by simp [szEs]; omega, List.suffix_cons _ _⟩
      · cases h
    · cases g : pE (pL f) d (t :: ts) with
      | err c a => rw [g] at h; cases h
      | ok e r' =>
        rw [g] at h
        obtain ⟨h1, h2⟩ := r_pE_sz (fun d m ts es r => r_pL_sz f d m ts es r) g
        cases g2 : pL f d (if m < 0 then m else m - 1) r' with
        | err c a => simp only [g2, consR] at h; cases h
        | ok es' r'' =>
          simp only [g2, consR] at h
          cases h
          obtain ⟨h3, h4⟩ := r_pL_sz f _ _ _ _ _ g2
          refine ⟨?_, h4.trans h2⟩
          simp only [szEs]
          omega
theorem pP_count : ∀ (ts : List Tok) (ns : List (List UInt8 × Nat)) (r : List Tok), pP ts = .ok ns r → ns.length + r.length < ts.length
  | [], _, _, h => by cases h
  | t :: ts, ns, r, h => by
    simp only [pP] at h
    split at h
    · cases h; simp
    · split at h
      · cases g : pP ts with
        | err c a => simp only [g, consN] at h; cases h
        | ok ns' r' =>
          simp only [g, consN] at h
          cases h
          have := pP_count ts _ _ g
          simp; omega
      · cases h
theorem pFun_small {G : Nat} {ts : List Tok} {fn : Fn} {r : List Tok} (h : pFun G ts = .ok fn r) : szE fn.body ≤ 2 * ts.length ∧ fn.params.length ≤ ts.length := by
  match ts, h with
  | t :: u :: n :: o :: ts, h =>
    simp only [pFun] at h
    split at h
    · cases h
    split at h
    · cases h
    split at h
    · cases h
    split at h
    · cases h
    cases e : pP ts with
    | err c a => rw [e] at h; cases h
    | ok ns r1 =>
      rw [e] at h
      simp only [paramsR] at h
      have h1 := pP_count _ _ _ e
      cases e2 : pL G 1 1 r1 with
      | err c a => rw [e2] at h; cases h
      | ok es r2 =>
        rw [e2] at h
        have h2 := (r_pL_sz _ _ _ _ _ _ e2).1
        cases es with
        | nil => cases h
        | cons b l =>
          cases h
          rw [szEs] at h2
          simp
          omega
  | [t, u, n], h =>
    simp only [pFun] at h
    split at h
    · cases h
    split at h <;> cases h
  | [t, u], h =>
    simp only [pFun] at h
    split at h <;> cases h
  | [t], h => cases h
  | [], h => cases h
def raddF (pre : List Fn) : Res (List Fn) → Res (List Fn)
  | .ok fs r => .ok (pre ++ fs) r
  | .err c a => .err c a
theorem raddF_cons (pre : List Fn) (fn : Fn) (r : Res (List Fn)) : raddF pre (consF fn r) = raddF (pre ++ [fn]) r := by cases r <;> simp [raddF, consF]
theorem raddF_nil (r : Res (List Fn)) : raddF [] r = r := by cases r <;> simp [raddF]
def e23 (c : Nat) : Prop := c = 0 ∨ c = 2 ∨ c = 3
theorem pF_err {L : Nat → Int → List Tok → Res (List Ex)} (hL : ∀ d m ts c a, L d m ts = .err c a → e23 c) {d : Nat} {ts : List Tok} {c a : Nat} (h : pF L d ts = .err c a) : e23 c := by
  cases ts with
  | nil => cases h; exact Or.inl rfl
  | cons t ts =>
    simp only [pF] at h
    split at h
    · cases h; exact Or.inr (Or.inl rfl)
    · rename_i n _
      cases g : L d n ts with
      | err c' a' => rw [g] at h; cases h; exact hL _ _ _ _ _ g
      | ok ks r' => rw [g] at h; cases h
    · rename_i n _
      cases ts with
      | nil => cases h; exact Or.inl rfl
      | cons u us =>
        simp only at h
        split at h
        · cases g : L d n us with
          | err c' a' => rw [g] at h; cases h; exact hL _ _ _ _ _ g
          | ok ks r' => rw [g] at h; cases h
        · cases h; exact Or.inr (Or.inl rfl)
theorem pE_err {L : Nat → Int → List Tok → Res (List Ex)} (hL : ∀ d m ts c a, L d m ts = .err c a → e23 c) {d : Nat} {ts : List Tok} {c a : Nat} (h : pE L d ts = .err c a) : e23 c := by
  cases ts with
  | nil => cases h; exact Or.inl rfl
  | cons t ts =>
    simp only [pE] at h
    split at h
    · cases h
    · cases h
    · split at h
      · cases h; exact Or.inr (Or.inl rfl)
      · cases h
    · split at h
      · cases h; exact Or.inr (Or.inr rfl)
      · exact pF_err hL h
    · cases h; exact Or.inr (Or.inl rfl)
theorem pL_err : ∀ (f d : Nat) (m : Int) (ts : List Tok) (c a : Nat), pL f d m ts = .err c a → e23 c
  | 0, _, _, _, _, _, h => by cases h; exact Or.inl rfl
  | f + 1, _, _, [], _, _, h => by cases h; exact Or.inl rfl
  | f + 1, d, m, t :: ts, c, a, h => by
    simp only [pL] at h
    split at h
    · split at h
      · cases h
      · cases h; exact Or.inr (Or.inl rfl)
    · cases g : pE (pL f) d (t :: ts) with
      | err c' a' => rw [g] at h; cases h; exact pE_err (fun d m ts c a => pL_err f d m ts c a) g
      | ok e r' =>
        rw [g] at h
        cases g2 : pL f d (if m < 0 then m else m - 1) r' with
        | err c' a' => simp only [g2, consR] at h; cases h; exact pL_err f _ _ _ _ _ g2
        | ok es' r'' => simp only [g2, consR] at h; cases h
theorem pP_err : ∀ (ts : List Tok) (c a : Nat), pP ts = .err c a → e23 c
  | [], _, _, h => by cases h; exact Or.inl rfl
  | t :: ts, c, a, h => by
    simp only [pP] at h
    split at h
    · cases h
    · split at h
      · cases g : pP ts with
        | err c' a' => simp only [g, consN] at h; cases h; exact pP_err ts _ _ g
        | ok ns' r' => simp only [g, consN] at h; cases h
      · cases h; exact Or.inr (Or.inl rfl)
theorem pFun_err {G : Nat} {ts : List Tok} {c a : Nat} (h : pFun G ts = .err c a) : e23 c := by
  match ts, h with
  | t :: u :: n :: o :: ts, h =>
    simp only [pFun] at h
    split at h
    · cases h; exact Or.inr (Or.inl rfl)
    split at h
    · cases h; exact Or.inr (Or.inl rfl)
    split at h
    · cases h; exact Or.inr (Or.inl rfl)
    split at h
    · cases h; exact Or.inr (Or.inl rfl)
    cases e : pP ts with
    | err c' a' => rw [e] at h; cases h; exact pP_err _ _ _ e
    | ok ns r1 =>
      rw [e] at h
      simp only [paramsR] at h
      cases e2 : pL G 1 1 r1 with
      | err c' a' => rw [e2] at h; cases h; exact pL_err _ _ _ _ _ _ e2
      | ok es r2 =>
        rw [e2] at h
        cases es with
        | nil => cases h; exact Or.inl rfl
        | cons b l => cases h
  | [t, u, n], h =>
    simp only [pFun] at h
    split at h
    · cases h; exact Or.inr (Or.inl rfl)
    split at h <;> (cases h; exact Or.inr (Or.inl rfl))
  | [t, u], h =>
    simp only [pFun] at h
    split at h <;> (cases h; exact Or.inr (Or.inl rfl))
  | [t], h => cases h; exact Or.inr (Or.inl rfl)
  | [], h => cases h; exact Or.inl rfl
theorem pProg_err : ∀ (f : Nat) (ts : List Tok) (c a : Nat), pProg f ts = .err c a → e23 c
  | 0, _, _, _, h => by cases h; exact Or.inl rfl
  | f + 1, [], _, _, h => by cases h; exact Or.inl rfl
  | f + 1, t :: ts, c, a, h => by
    simp only [pProg] at h
    split at h
    · cases h
    · cases g : pFun (f + 1) (t :: ts) with
      | err c' a' => rw [g] at h; cases h; exact pFun_err g
      | ok fn r =>
        rw [g] at h
        cases g2 : pProg f r with
        | err c' a' => simp only [g2, consF] at h; cases h; exact pProg_err f r _ _ g2
        | ok fs r' => simp only [g2, consF] at h; cases h
theorem codeT_of {c : Nat} (h : e23 c) (h0 : c ≠ 0) : codeT c = c := by
  rcases h with h | h | h
  · exact absurd h h0
  · subst h; rfl
  · subst h; rfl
end Go.Proofs.YtdiefbahmcihlaaGreatDoor

/-
  The reference: Read: the loop over functions.
-/
namespace Go.Proofs.YtdiefbahmcihlaaGreatDoor
open Go.RowKit

def Small (fn : Fn) : Prop := WfE fn.body ∧ szE fn.body ≤ 20000 ∧ fn.params.length ≤ 3000
def RLoop (base rb tb cap : Nat) (l : List (Tok × ByteArray)) (w : World) (RES : Res (List Fn)) (gh : Nat) (wr : World) : Prop :=
  ∃ (k d e a : Nat) (fad : Option Addr) (fcp : Nat) (vad : Option Addr) (vcp : Nat) (fs : List FunV) (ps : List PartV),
    Rp wr base rb tb cap l (.slice fad fs.length fcp) (.slice vad ps.length vcp) k d e a ps ∧ wr.ownsRow base 215 5 (.slice fad fs.length fcp) fs.length (funCells fs) ∧ (∀ g, some g = (Value.slice fad fs.length fcp).ownBlock → some g ≠ (Value.slice vad ps.length vcp).ownBlock ∧ g ≠ rb ∧ g ≠ tb) ∧ Below w.heap.size w wr ∧
    Aside ((e ≠ 0 ∧ gh = 0 ∧ RES = .err e a) ∨ (e = 0 ∧ d = 0 ∧ a = 0 ∧ gh = l.length - k + 1 ∧ ps.length + (l.length - k) ≤ 3000 ∧ fs.length + (l.length - k) ≤ 3000 ∧ ∃ fns f, FunsRep wr (fun g => base ≤ g ∧ some g ≠ (Value.slice vad ps.length vcp).ownBlock ∧ some g ≠ (Value.slice fad fs.length fcp).ownBlock ∧ g ≠ rb ∧ g ≠ tb) ps fs fns ∧ (toksAt l k).length ≤ f ∧ RES = raddF fns (pProg f (toksAt l k)) ∧ ∀ fn ∈ fns, Small fn))
theorem FunsRep.map {w w' : World} {D D' : Nat → Prop} {ps ps' : List PartV} (hp : ∀ (i : Nat) (p : PartV), ps[i]? = some p → ps'[i]? = some p) (hR : ∀ t sl n vs, RowAt w D t 1 sl n vs → RowAt w' D' t 1 sl n vs) : ∀ {fs : List FunV} {fns : List Fn}, FunsRep w D ps fs fns → FunsRep w' D' ps' fs fns
  | [], fns, h => h
  | f :: r, fns, h => by
    obtain ⟨fn, q, h1, ⟨q1, q2, ⟨qs, ls, q3, q4, q5, q6⟩, q7⟩, h3⟩ := h
    exact ⟨fn, q, h1, ⟨q1, q2, ⟨qs, ls, q3, q4, hR _ _ _ _ q5, hR _ _ _ _ q6⟩, q7.map (fun i p _ hq => hp i p hq) (Nat.le_refl _) (fun sl n vs hr => hR _ _ _ _ hr)⟩, FunsRep.map hp hR h3⟩
theorem FunsRep.snoc {w : World} {D : Nat → Prop} {ps : List PartV} {fn : Fn} {f : FunV} (hf : RepF w D ps fn f) : ∀ {fs : List FunV} {fns : List Fn}, FunsRep w D ps fs fns → FunsRep w D ps (fs ++ [f]) (fns ++ [fn])
  | [], fns, h => by
    rw [show fns = [] from h]
    exact ⟨fn, [], rfl, hf, rfl⟩
  | x :: r, fns, h => by
    obtain ⟨g, q, rfl, h2, h3⟩ := h
    exact ⟨g, q ++ [fn], rfl, h2, FunsRep.snoc hf h3⟩
/-- The next round. -/
theorem RLoop.next {base rb tb cap : Nat} {l : List (Tok × ByteArray)} {w wr w2 : World} {RES : Res (List Fn)} {k : Nat} {fad : Option Addr} {fcp : Nat} {vad : Option Addr} {vcp : Nat} {fs : List FunV} {ps : List PartV} {fns : List Fn} {f : Nat} {r : Ending} (hbase : base = w.heap.size) (hrb : base ≤ rb) (_htb : base ≤ tb) (hwf : TokWF l)
    (rp : Rp wr base rb tb cap l (.slice fad fs.length fcp) (.slice vad ps.length vcp) k 0 0 0 ps) (own : wr.ownsRow base 215 5 (.slice fad fs.length fcp) fs.length (funCells fs)) (bw : Below w.heap.size w wr)
    (hps : ps.length + (l.length - k) ≤ 3000) (hfs : fs.length + (l.length - k) ≤ 3000) (hrep : FunsRep wr (fun g => base ≤ g ∧ some g ≠ (Value.slice vad ps.length vcp).ownBlock ∧ some g ≠ (Value.slice fad fs.length fcp).ownBlock ∧ g ≠ rb ∧ g ≠ tb) ps fs fns) (hf : (toksAt l k).length ≤ f + 1) (hR : RES = raddF fns (pProg (f + 1) (toksAt l k))) (hsm : ∀ fn ∈ fns, Small fn) (hne : (l[k]'rp.z.hk).1.k ≠ .eof)
    (hg : gPost (f0 (f + 1) (toksAt l k)) base rb tb cap l (.slice fad fs.length fcp) (.slice vad ps.length vcp) 0 k ps fs wr r w2) :
    r = .returned (.tuple #[]) ∧ ∃ gh2, gh2 < l.length - k + 1 ∧ RLoop base rb tb cap l w RES gh2 w2 := by
  obtain ⟨h1, hT, fv', pv', ps', fu, k', d', e', a', rp2, own2, mvp, mvf, hfd2, H⟩ := hg
  refine ⟨h1, ?_⟩
  obtain ⟨fad2, fcp2, rfl⟩ := owns_slice own2
  obtain ⟨vad2, vcp2, rfl⟩ := owns_slice rp2.own
  have hk := rp.z.hk
  have hlt := rp.lt
  have hfl := own.lt
  have hB : Below w.heap.size w w2 := hT.fresh bw fun g hg hS => by
    rcases hS with e | e | e
    · omega
    · have := (hlt.2.2 g e.symm).1; omega
    · have := (hfl g e.symm).1; omega
  have hstep : RES = raddF fns (match f0 (f + 1) (toksAt l k) with | .err c a => .err c a | .ok fn r => consF fn (pProg f r)) := by
    rw [hR, ← pFun_f0 (f + 1) hwf hk, toksAt_cons hk, pProg, if_neg hne]
    cases pFun (f + 1) ((l[k]'hk).1 :: toksAt l (k + 1)) <;> rfl
  have e2 : (fs ++ [fu]).length = fs.length + 1 := by simp
  rcases H.out with ⟨he, hr⟩ | ⟨he, hd, ha, hkk, hpre, hsz, fn, hr, hrf⟩
  · refine ⟨0, by omega, k', d', e', a', fad2, fcp2, vad2, vcp2, fs ++ [fu], ps', rp2, own2, hfd2, hB, Or.inl ⟨he, rfl, ?_⟩⟩
    rw [hstep, hr]; rfl
  · have hk2 := rp2.z.hk
    refine ⟨l.length - k' + 1, by omega, k', d', e', a', fad2, fcp2, vad2, vcp2, fs ++ [fu], ps', rp2, own2, hfd2, hB, Or.inr ⟨he, hd, ha, rfl, by omega, by simp; omega, fns ++ [fn], f, ?_, ?_, ?_, ?_⟩⟩
    · refine FunsRep.snoc ?_ ?_
      · obtain ⟨q1, q2, ⟨qs, ls, q3, q4, q5, q6⟩, q7⟩ := hrf
        have wk : ∀ t sl n vs, RowAt w2 (fun g => wr.heap.size ≤ g ∧ some g ≠ (Value.slice vad2 ps'.length vcp2).ownBlock ∧ some g ≠ (Value.slice fad2 (fs ++ [fu]).length fcp2).ownBlock) t 1 sl n vs → RowAt w2 (fun g => base ≤ g ∧ some g ≠ (Value.slice vad2 ps'.length vcp2).ownBlock ∧ some g ≠ (Value.slice fad2 (fs ++ [fu]).length fcp2).ownBlock ∧ g ≠ rb ∧ g ≠ tb) t 1 sl n vs := fun t sl n vs hh => hh.weaken fun g hg => ⟨by have := bw.size; omega, hg.2.1, hg.2.2, by omega, by omega⟩
        exact ⟨q1, q2, ⟨qs, ls, q3, q4, wk _ _ _ _ q5, wk _ _ _ _ q6⟩, q7.map (fun i p _ hq => hq) (Nat.le_refl _) (fun sl n vs hh => wk _ _ _ _ hh)⟩
      · refine hrep.map (fun i p hq => ?_) (fun t sl n vs hh => ?_)
        · obtain ⟨r3, hr3⟩ := hpre
          rw [← hr3, List.getElem?_append_left (List.getElem?_eq_some_iff.1 hq).1]
          exact hq
        · refine (hh.keep (w' := w2) fun g hg hl => hT.block g hl ?_).weaken fun g hg => ⟨hg.1.1, fun e => ?_, fun e => ?_, hg.1.2.2.2⟩
          · rintro (e | e | e)
            · exact hg.2.2.2.1 e
            · exact hg.2.1 e
            · exact hg.2.2.1 e
          · rcases mvp.own g e with e2 | e2
            · exact hg.1.2.1 e2
            · have := hg.2; omega
          · rcases mvf.own g e with e2 | e2
            · exact hg.1.2.2.1 e2
            · have := hg.2; omega
    · rw [toksAt_len] at hf ⊢; omega
    · rw [hstep, hr]
      exact raddF_cons fns fn _
    · intro x hx
      rcases List.mem_append.1 hx with g | g
      · exact hsm x g
      · simp at g
        subst g
        rw [← pFun_f0 (f + 1) hwf hk] at hr
        have := pFun_small hr
        rw [toksAt_len] at this
        exact ⟨pFun_wf hr, by omega, by omega⟩
end Go.Proofs.YtdiefbahmcihlaaGreatDoor
