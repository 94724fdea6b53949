/-
  The reference: looks at every function; has.
-/
import Derived.Test.YtdiefbahmcihlaaGreatDoorRefN
namespace Go.Proofs.YtdiefbahmcihlaaGreatDoor
open Go.RowKit
attribute [local go_sem ↓] Go.wp_at_zero Go.wp_at_succ

theorem look_sub {fs : List (List UInt8 × Nat)} {n : List UInt8} (h : lookF fs n = none) : ∀ s ∈ fs, s.1 ≠ n := by
  intro s hs e
  simp only [lookF, Option.map_eq_none_iff, List.find?_eq_none] at h
  have := h s hs
  simp [e] at this
theorem nmFn_new {fs : List (List UInt8 × Nat)} {fn : Fn} (h : nmFn fs fn = none) : lookF fs fn.name = none := by
  unfold nmFn at h
  split at h
  · cases h
  · rename_i h0
    simpa using h0
theorem nmAll_new : ∀ {fns : List Fn} {pre : List (List UInt8 × Nat)}, nmAll pre fns = none → ∀ g ∈ fns, ∀ s ∈ pre, s.1 ≠ g.name
  | [], pre, _, g, hg => by cases hg
  | fn :: r, pre, h, g, hg => by
    rw [nmAll] at h
    cases hf : nmFn pre fn with
    | some e => rw [hf] at h; cases h
    | none =>
      rw [hf] at h
      rcases List.mem_cons.1 hg with rfl | hg2
      · exact look_sub (nmFn_new hf)
      · intro s hs
        exact nmAll_new h g hg2 s (by simp [hs])
/-- The function of a name has so many parameters. -/
def hasL (wd : List UInt8) (k : Nat) (fns : List Fn) : Bool := match lookF (fns.map sigOf) wd with | some a => a == k | none => false
theorem has_first (wd : List UInt8) (k : Nat) : ∀ {fns : List Fn} {pre : List (List UInt8 × Nat)}, nmAll pre fns = none → hasP wd k fns = hasL wd k fns
  | [], pre, _ => by simp [hasP, hasL, lookF]
  | fn :: r, pre, h => by
    rw [nmAll] at h
    cases hf : nmFn pre fn with
    | some e => rw [hf] at h; cases h
    | none =>
      rw [hf] at h
      have ih := has_first wd k h
      have hnew := nmAll_new h
      cases hn : fn.name == wd with
      | false =>
        simp only [hasP, hasL, lookF, List.any_cons, List.map_cons, List.find?_cons, sigOf, hn, Bool.false_and, Bool.false_or] at ih ⊢
        exact ih
      | true =>
        have hw : fn.name = wd := by simpa using hn
        have hno : hasP wd k r = false := by
          rw [hasP, List.any_eq_false]
          intro g hg
          have := hnew g hg (sigOf fn) (by simp)
          simp only [sigOf] at this
          rw [hw] at this
          simp [Ne.symm this]
        simp only [hasP] at hno
        simp [hasP, hasL, lookF, sigOf, hn, hno]
theorem plain_fst : ∀ (qs : List ByteArray) (ls : List Nat), qs.length = ls.length → (plainN (qs.zip ls)).map (·.1) = namesR qs
  | [], ls, _ => by simp [plainN, namesR]
  | q :: qs, [], h => by simp at h
  | q :: qs, x :: ls, h => by
    have := plain_fst qs ls (by simpa using h)
    simp only [plainN, namesR, List.zip_cons_cons, List.map_cons] at this ⊢
    rw [this]
section
variable {w : World} {rb : Nat} {fv pv : Value} {fs : List FunV} {ps : List PartV} {fns : List Fn}
theorem slice_of {D : Nat → Prop} {e : TypeId} {size : Nat} {v : Value} {n : Nat} {xs : List Value} (h : RowAt w D e size v n xs) : ∃ ad cp, v = .slice ad n cp := by
  rcases h.2 with ⟨g1, g2⟩ | ⟨g, cp, cur, hv, _⟩
  · exact ⟨none, 0, by rw [g1, g2]⟩
  · exact ⟨_, _, hv⟩
theorem looks_any (h : PM w rb fv pv fs ps fns) (i : Nat) (hi : i < fns.length) (hwf : WfE (fns[i]'hi).body) (hsz : szE (fns[i]'hi).body ≤ 20000) (hpl : (fns[i]'hi).params.length ≤ 3000) :
    Calls Tryz.prog 62 #[.pointer (some ⟨rb, 5, none⟩), .int .i64 ((i : Nat) : Int)] w (nmPost (nmFn ((fns.take i).map sigOf) (fns[i]'hi)) w) := by
  have hl := h.rep.length
  have hif : i < fs.length := by omega
  obtain ⟨r1, r2, ⟨qs, ls, q1, q2, q3, q4⟩, r4⟩ := h.rep.at i hif hi
  obtain ⟨aad, acp, hpv⟩ := slice_of q3
  obtain ⟨lad, lcp, hlv⟩ := slice_of q4
  have hqn : qs.length = (fns[i]'hi).params.length := by rw [← q2]; simp [plainN, q1]
  rcases find_or h i (by omega) (fs[i]'hif).name with ⟨h1, h2⟩ | ⟨j, hj, hjm, h1, a2, an, ac2, h2, h3⟩
  · rw [r1] at h2
    have hb : ∃ p, ps[(fs[i]'hif).body]? = some p := by
      cases hb : (fns[i]'hi).body <;> rw [hb, RepP] at r4
      · obtain ⟨_, p, hp, _⟩ := r4; exact ⟨p, hp⟩
      · obtain ⟨_, p, hp, _⟩ := r4; exact ⟨p, hp⟩
      · obtain ⟨_, p, hp, _⟩ := r4; exact ⟨p, hp⟩
      · obtain ⟨_, p, _, hp, _⟩ := r4; exact ⟨p, hp⟩
    have := looks_once h i hif aad lad acp lcp qs ls q1 hpv hlv h1 (by rw [← hpv]; exact q3) (by rw [← hlv]; exact q4) (by omega) (nmE ((fns.take i).map sigOf) (namesR qs) (fns[i]'hi).body) (fun X hX => nam_all _ _ _ _ qs X 0 i (fun _ => True) (Nat.le_refl _) hwf (h.below hX) (r4.map (fun _ _ _ h => h) (Nat.le_refl _) (fun _ _ _ hh => row_below hh hX)) (by rw [← hpv]; exact row_below q3 hX) (by omega) (by omega))
    have e : nmFn ((fns.take i).map sigOf) (fns[i]'hi) = (match dupP [] (plainN (qs.zip ls)) with | some p => some (5, p) | none => nmE ((fns.take i).map sigOf) (namesR qs) (fns[i]'hi).body) := by
      rw [nmFn, h2, ← q2]
      have hn : (plainN (qs.zip ls)).map (·.1) = namesR qs := plain_fst qs ls q1
      rw [hn]
      simp only [Option.isSome_none, Bool.false_eq_true, if_false]
      cases dupP [] (plainN (qs.zip ls)) <;> rfl
    rw [e]
    exact this
  · rw [r1] at h3
    have e : nmFn ((fns.take i).map sigOf) (fns[i]'hi) = some (5, (fs[i]'hif).at_) := by
      rw [nmFn, h3, r2]; rfl
    rw [e]
    exact looks_twice h i hif aad lad qs.length acp ls.length lcp hpv hlv j h1
set_option maxHeartbeats 1000000 in
theorem has_none (h : PM w rb fv pv fs ps fns) (nb : ByteArray) (k : Nat) (hnone : ∀ r, FindIs fs nb.toList fs.length r → r = -1) :
    Calls Tryz.prog 63 #[.pointer (some ⟨rb, 5, none⟩), .string nb, .int .i64 ((k : Nat) : Int)] w fun e w' => e = .returned (.bool false) ∧ w' = w := by
  have c5 := h.c5
  have cfi := find_any h nb fs.length (Nat.le_refl _)
  obtain ⟨ad, cp, rfl⟩ := slice_of h.rf
  go_enter Tryz.func63, Tryz.ntmps63
  go_wp2_with (go_at_call 103; refine cfi.mono ?_; rintro r w2 ⟨⟨fr, rfl, hfr⟩, rfl⟩; obtain rfl := hnone _ hfr; clear hfr)
  go_ret
  exact ⟨rfl, rfl⟩
set_option maxHeartbeats 1000000 in
theorem has_some (h : PM w rb fv pv fs ps fns) (nb : ByteArray) (k j : Nat) (hj : j < fs.length) (hfound : ∀ r, FindIs fs nb.toList fs.length r → r = (j : Int)) (aad : Option Addr) (an acp : Nat) (hav : (fs[j]'hj).pv = .slice aad an acp) :
    Calls Tryz.prog 63 #[.pointer (some ⟨rb, 5, none⟩), .string nb, .int .i64 ((k : Nat) : Int)] w fun e w' => e = .returned (.bool (an == k)) ∧ w' = w := by
  have c5 := h.c5
  have hf := h.hf
  have cfi := find_any h nb fs.length (Nat.le_refl _)
  obtain ⟨fg, fc, rfl, hd1, hd2, b0, b1, b2, b3, b4⟩ := h.fun j hj
  unfold maxLen at hd2
  rw [hav] at b2
  clear b0 b1 b3 b4
  have e : (an == k) = (((an : Nat) : Int) == ((k : Nat) : Int)) := by
    rw [Bool.eq_iff_iff]; simp only [beq_iff_eq]; omega
  rw [e]
  go_enter Tryz.func63, Tryz.ntmps63
  go_wp2_with (go_at_call 103; refine cfi.mono ?_; rintro r w2 ⟨⟨fr, rfl, hfr⟩, rfl⟩; obtain rfl := hfound _ hfr; clear hfr)
  go_ret
  exact ⟨rfl, rfl⟩
theorem rhas_any (h : PM w rb fv pv fs ps fns) (nb : ByteArray) (k : Nat) :
    Calls Tryz.prog 63 #[.pointer (some ⟨rb, 5, none⟩), .string nb, .int .i64 ((k : Nat) : Int)] w fun e w' => e = .returned (.bool (hasL nb.data.toList k fns)) ∧ w' = w := by
  have hl := h.rep.length
  rcases find_or h fs.length (Nat.le_refl _) nb with ⟨h1, h2⟩ | ⟨j, hj, hjm, h1, a2, an, ac2, h2, h3⟩
  · rw [hl, List.take_length] at h2
    have := has_none h nb k h1
    rw [hasL, h2]
    exact this
  · rw [hl, List.take_length] at h3
    have := has_some h nb k j hj h1 a2 an ac2 h2
    rw [hasL, h3]
    exact this
end
end Go.Proofs.YtdiefbahmcihlaaGreatDoor
