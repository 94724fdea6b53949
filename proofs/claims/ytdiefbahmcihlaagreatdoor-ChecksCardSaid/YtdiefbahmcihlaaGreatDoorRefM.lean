/-
  The reference: names, at all exprs.
-/
import Derived.Test.YtdiefbahmcihlaaGreatDoorRefL
namespace Go.Proofs.YtdiefbahmcihlaaGreatDoor
open Go.RowKit

theorem look_none {n : List UInt8} : ∀ {fns : List Fn} {many : Nat}, (∀ j (hj : j < fns.length), j < many → fns[j].name ≠ n) → lookF ((fns.take many).map sigOf) n = none
  | [], many, _ => by simp [lookF]
  | fn :: r, 0, _ => by simp [lookF]
  | fn :: r, many + 1, h => by
    have h0 := h 0 (by simp) (by omega)
    have := look_none (fns := r) (many := many) (n := n) fun j hj hm => h (j + 1) (by simpa using hj) (by omega)
    simp only [List.getElem_cons_zero] at h0
    simp only [lookF, List.take_succ_cons, List.map_cons, List.find?_cons, sigOf] at this ⊢
    rw [show (fn.name == n) = false by simpa using h0]
    exact this
theorem look_some {n : List UInt8} : ∀ {fns : List Fn} {many j : Nat} (hj : j < fns.length), j < many → fns[j].name = n → (∀ i (hi : i < fns.length), i < j → fns[i].name ≠ n) → lookF ((fns.take many).map sigOf) n = some fns[j].params.length
  | [], many, j, hj, _, _, _ => by simp at hj
  | fn :: r, 0, j, hj, hm, _, _ => by omega
  | fn :: r, many + 1, 0, hj, hm, hn, _ => by
    simp only [List.getElem_cons_zero] at hn
    simp [lookF, sigOf, hn]
  | fn :: r, many + 1, j + 1, hj, hm, hn, hall => by
    have h0 := hall 0 (by simp) (by omega)
    simp only [List.getElem_cons_zero] at h0
    have := look_some (fns := r) (many := many) (j := j) (n := n) (by simpa using hj) (by omega) hn fun i hi hm => hall (i + 1) (by simpa using hi) (by omega)
    simp only [lookF, List.take_succ_cons, List.map_cons, List.find?_cons, sigOf] at this ⊢
    rw [show (fn.name == n) = false by simpa using h0]
    simpa using this
theorem firstOr {P : Nat → Prop} [DecidablePred P] : ∀ m : Nat, (∀ j, j < m → ¬ P j) ∨ ∃ j, j < m ∧ P j ∧ ∀ i, i < j → ¬ P i
  | 0 => Or.inl fun j hj => absurd hj (by omega)
  | m + 1 => by
    rcases firstOr (P := P) m with h | ⟨j, h1, h2, h3⟩
    · by_cases hp : P m
      · exact Or.inr ⟨m, by omega, hp, h⟩
      · refine Or.inl fun j hj => ?_
        by_cases e : j = m
        · subst e; exact hp
        · exact h j (by omega)
    · exact Or.inr ⟨j, by omega, h2, h3⟩
theorem hasS_eq (bs : List ByteArray) (v : ByteArray) : hasS bs v = (namesR bs).contains v.data.toList := by
  rw [Bool.eq_iff_iff]
  simp [hasS, namesR, ByteArray.toList_eq]
theorem opT {p : PartV} {l : List UInt8} (h : p.op.data.toList = l) (m : List UInt8) : (p.op.toList == m) = (l == m) := by rw [ByteArray.toList_eq, h]
section
variable {rb : Nat} {fv pv : Value} {fs : List FunV} {ps : List PartV} {fns : List Fn}
/-- A function of a name is found, or there is none. -/
theorem find_or {w : World} (h : PM w rb fv pv fs ps fns) (many : Nat) (_hm : many ≤ fs.length) (nb : ByteArray) :
    ((∀ r, FindIs fs nb.toList many r → r = -1) ∧ lookF ((fns.take many).map sigOf) nb.data.toList = none) ∨ (∃ (j : Nat) (hj : j < fs.length), j < many ∧ (∀ r, FindIs fs nb.toList many r → r = (j : Int)) ∧ ∃ (aad : Option Addr) (an acp : Nat), (fs[j]'hj).pv = .slice aad an acp ∧ lookF ((fns.take many).map sigOf) nb.data.toList = some an) := by
  have hl := h.rep.length
  rcases firstOr (P := fun j => ∃ hj : j < fs.length, (fs[j]'hj).name.toList = nb.toList) many with hno | ⟨j, hjm, ⟨hj, hn⟩, hall⟩
  · refine Or.inl ⟨?_, ?_⟩
    · rintro r (⟨h1, _⟩ | ⟨j, hj, h1, _, h2, _⟩)
      · exact h1
      · exact absurd ⟨hj, h2⟩ (hno j h1)
    · refine look_none fun j hj hjm e => hno j hjm ⟨by omega, ?_⟩
      have hr := h.rep.at j (by omega) hj
      rw [ByteArray.toList_eq, ByteArray.toList_eq, hr.1, e]
  · have hjn : j < fns.length := by omega
    have hr := h.rep.at j hj hjn
    obtain ⟨qs, ls, q1, q2, q3, q4⟩ := hr.2.2.1
    have hpv : ∃ aad acp, (fs[j]'hj).pv = .slice aad qs.length acp := by
      rcases q3.2 with ⟨g1, g2⟩ | ⟨g, cp, cur, hv, _⟩
      · exact ⟨none, 0, by rw [g1, g2]⟩
      · exact ⟨_, _, hv⟩
    obtain ⟨aad, acp, hpv⟩ := hpv
    refine Or.inr ⟨j, hj, hjm, ?_, aad, qs.length, acp, hpv, ?_⟩
    · rintro r (⟨_, h1⟩ | ⟨i, hi, h1, h2, h3, h4⟩)
      · exact absurd hn (h1 j hj hjm)
      · rw [h2]
        have : i = j := by
          rcases Nat.lt_trichotomy i j with g | g | g
          · exact absurd ⟨hi, h3⟩ (hall i g)
          · exact g
          · exact absurd hn (h4 j hj g)
        rw [this]
    · have hpl : (fns[j]'hjn).params.length = qs.length := by rw [← q2]; simp [plainN, q1]
      rw [← hpl]
      refine look_some hjn hjm ?_ fun i hi him e => hall i him ⟨by omega, ?_⟩
      · rw [← hr.1, ← ByteArray.toList_eq, hn, ByteArray.toList_eq]
      · have hri := h.rep.at i (by omega) hi
        rw [ByteArray.toList_eq, ByteArray.toList_eq, hri.1, e]
theorem nam_step {n : Nat} (IH : NamDo rb fv pv fs ps fns n) : NamDo rb fv pv fs ps fns (n + 1) := by
  intro ex i sv bs w lo many D hsz hwf h hrep hS hbs hm
  cases ex with
  | num b =>
    rw [RepP] at hrep
    obtain ⟨_, p, hp, hop, _, hkv⟩ := hrep
    obtain ⟨hi, rfl⟩ := List.getElem?_eq_some_iff.1 hp
    rw [nmE]
    exact names_leaf h i hi sv many hm (by rw [opT hop]; decide) (by rw [opT hop]; decide) (by rw [opT hop]; decide) hkv
  | txt b =>
    rw [RepP] at hrep
    obtain ⟨_, p, hp, hop, _, hkv⟩ := hrep
    obtain ⟨hi, rfl⟩ := List.getElem?_eq_some_iff.1 hp
    rw [nmE]
    exact names_leaf h i hi sv many hm (by rw [opT hop]; decide) (by rw [opT hop]; decide) (by rw [opT hop]; decide) hkv
  | var nm a =>
    rw [RepP] at hrep
    obtain ⟨_, p, hp, hop, hs, hat, hkv⟩ := hrep
    obtain ⟨hi, rfl⟩ := List.getElem?_eq_some_iff.1 hp
    rw [nmE, ← hs, ← hasS_eq, ← hat]
    cases hin : hasS bs (ps[i]'hi).s with
    | true => exact names_var h i hi sv many hm (by rw [opT hop]; decide) (by rw [opT hop]; decide) (by rw [opT hop]; decide) hkv bs D hS (by omega) hin
    | false => exact names_novar h i hi sv many hm (by rw [opT hop]; decide) (by rw [opT hop]; decide) (by rw [opT hop]; decide) hkv bs D hS (by omega) hin
  | form wd nm a ks =>
    rw [nmE_form hwf]
    rw [WfE] at hwf
    obtain ⟨⟨b, m, hsh, hcount⟩, hwfs⟩ := hwf
    rw [RepP] at hrep
    obtain ⟨_, p, js, hp, hop, hs, hat, hrow, hks⟩ := hrep
    obtain ⟨hi, rfl⟩ := List.getElem?_eq_some_iff.1 hp
    rw [szE] at hsz hbs
    have hjl := hks.length
    obtain ⟨kad, kcp, hkv⟩ : ∃ kad kcp, (ps[i]'hi).kv = .slice kad js.length kcp := by
      rcases hrow.2 with ⟨g1, g2⟩ | ⟨g, cp, cur, hv, _⟩
      · exact ⟨none, 0, by rw [g1, g2]⟩
      · exact ⟨_, _, hv⟩
    have ha : (wd == [97]) = false := by
      cases hq : wd == [97] with
      | false => rfl
      | true =>
        have : wd = [97] := by simpa using hq
        subst this
        simp [shapeL] at hsh
    have full : ∀ {wd0 : List UInt8}, wd = wd0 → nmK ((fns.take many).map sigOf) (namesR bs) (ps[i]'hi).op.data.toList (ps[i]'hi).s.data.toList 0 ks = nmK ((fns.take many).map sigOf) (namesR bs) wd nm 0 ks := fun _ => by rw [hop, hs]
    cases hc : wd == [99, 97, 108, 108] with
    | true =>
      have hmm : (wd == [109, 97, 112]) = false := by
        have : wd = [99, 97, 108, 108] := by simpa using hc
        subst this; decide
      have hll : (wd == [108, 101, 116]) = false := by
        have : wd = [99, 97, 108, 108] := by simpa using hc
        subst this; decide
      simp only [Bool.true_or, if_true]
      rcases find_or h many hm (ps[i]'hi).s with ⟨h1, h2⟩ | ⟨j, hj, hjm, h1, aad, an, acp, h2, h3⟩
      · rw [hs] at h2
        rw [callErr, h2, ← hat]
        exact names_none_call h i hi sv many hm (by rw [opT hop]; exact ha) (by rw [opT hop]; exact hc) (by rw [opT hop]; exact hmm) kad js.length kcp hkv h1
      · rw [hs] at h3
        by_cases hk : an = js.length
        · subst hk
          rw [callErr, h3, ← hjl]
          simp only [if_true, orE]
          have := names_call_call h i hi sv many hm (by rw [opT hop]; exact ha) (by rw [opT hop]; exact hc) (by rw [opT hop]; exact hmm) (by rw [opT hop]; exact hll) kad kcp bs D hS ks js hkv lo n hrow hks hwfs (by omega) (by omega) IH j hj h1 aad acp h2
          rw [hop, hs] at this
          exact this
        · rw [callErr, h3, ← hjl]
          simp only [hk, if_false, orE]
          rw [← hat]
          exact names_arity_call h i hi sv many hm (by rw [opT hop]; exact ha) (by rw [opT hop]; exact hc) (by rw [opT hop]; exact hmm) kad js.length kcp hkv j hj h1 aad an acp h2 hk
    | false =>
      cases hmm : wd == [109, 97, 112] with
      | true =>
        have hll : (wd == [108, 101, 116]) = false := by
          have : wd = [109, 97, 112] := by simpa using hmm
          subst this; decide
        simp only [Bool.or_true, if_true]
        rcases find_or h many hm (ps[i]'hi).s with ⟨h1, h2⟩ | ⟨j, hj, hjm, h1, aad, an, acp, h2, h3⟩
        · rw [hs] at h2
          rw [callErr, h2, ← hat]
          exact names_none_map h i hi sv many hm (by rw [opT hop]; exact ha) (by rw [opT hop]; exact hc) (by rw [opT hop]; exact hmm) kad js.length kcp hkv h1
        · rw [hs] at h3
          by_cases hk : an = js.length
          · subst hk
            rw [callErr, h3, ← hjl]
            simp only [if_true, orE]
            have := names_call_map h i hi sv many hm (by rw [opT hop]; exact ha) (by rw [opT hop]; exact hc) (by rw [opT hop]; exact hmm) (by rw [opT hop]; exact hll) kad kcp bs D hS ks js hkv lo n hrow hks hwfs (by omega) (by omega) IH j hj h1 aad acp h2
            rw [hop, hs] at this
            exact this
          · rw [callErr, h3, ← hjl]
            simp only [hk, if_false, orE]
            rw [← hat]
            exact names_arity_map h i hi sv many hm (by rw [opT hop]; exact ha) (by rw [opT hop]; exact hc) (by rw [opT hop]; exact hmm) kad js.length kcp hkv j hj h1 aad an acp h2 hk
      | false =>
        simp only [Bool.or_self, Bool.false_eq_true, if_false]
        have := names_form h i hi sv many hm (by rw [opT hop]; exact ha) (by rw [opT hop]; exact hc) (by rw [opT hop]; exact hmm) kad kcp bs D hS ks js hkv lo n hrow hks hwfs (by omega) (by omega) IH
        rw [hop, hs] at this
        exact this
theorem nam_all : ∀ n, NamDo rb fv pv fs ps fns n
  | 0 => by
    intro ex i sv bs w lo many D hsz
    cases ex <;> simp [szE] at hsz
  | n + 1 => nam_step (nam_all n)
end
end Go.Proofs.YtdiefbahmcihlaaGreatDoor
