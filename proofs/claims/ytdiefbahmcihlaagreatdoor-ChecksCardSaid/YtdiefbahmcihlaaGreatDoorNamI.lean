/-
  checkExpr at every expr.
-/
import Derived.Test.YtdiefbahmcihlaaGreatDoorNamH
namespace Go.Proofs.YtdiefbahmcihlaaGreatDoor
open Go.RowKit

theorem rep_one {w : World} {D : Nat → Prop} {ks : List Ex} {v : Value} (h : RepEs w D ks [v]) : ∃ x, ks = [x] ∧ RepE w D x v := by
  cases ks with
  | nil => rw [RepEs] at h; cases h
  | cons x l =>
    rw [RepEs] at h
    obtain ⟨v', r, h1, h2, h3⟩ := h
    cases h1
    cases l with
    | nil => exact ⟨x, rfl, h2⟩
    | cons y l => rw [RepEs] at h3; obtain ⟨_, _, h, _⟩ := h3; cases h
theorem rep_two {w : World} {D : Nat → Prop} {ks : List Ex} {v u : Value} (h : RepEs w D ks [v, u]) : ∃ x y, ks = [x, y] ∧ RepE w D x v ∧ RepE w D y u := by
  cases ks with
  | nil => rw [RepEs] at h; cases h
  | cons x l =>
    rw [RepEs] at h
    obtain ⟨v', r, h1, h2, h3⟩ := h
    cases h1
    obtain ⟨y, rfl, h4⟩ := rep_one h3
    exact ⟨x, y, rfl, h2, h4⟩

theorem exprDo_zero : ExprDo 0 := by
  intro e v sv bs B fs w D D2 aN aA aW h
  cases e <;> simp [szE] at h
theorem exprDo_succ {k : Nat} (IH : ExprDo k) : ExprDo (k + 1) := by
  intro e v sv bs B fs w D D2 aN aA aW hsz hb hR hS hA hN
  cases e with
  | num b =>
    rw [RepE] at hR
    obtain ⟨sp, rfl⟩ := hR
    rw [nmE]
    refine (ce_num sp _ sv B w).mono ?_
    rintro r w' ⟨rfl, rfl⟩
    exact ⟨rfl, Below.refl _ _⟩
  | txt b =>
    rw [RepE] at hR
    obtain ⟨sp, bb, _, rfl⟩ := hR
    rw [nmE]
    refine (ce_txt sp _ sv B w).mono ?_
    rintro r w' ⟨rfl, rfl⟩
    exact ⟨rfl, Below.refl _ _⟩
  | var n a =>
    rw [RepE] at hR
    obtain ⟨nb, rfl, rfl⟩ := hR
    have hz : 1 ≤ szE (.var nb.data.toList a) := by rw [szE]; omega
    refine (ce_var nb a sv bs B w D2 aN aA aW hS (by omega) hN).mono ?_
    rintro r w' ⟨rfl, hb'⟩
    refine ⟨?_, hb'⟩
    rw [nmE, contains_names]
    cases (namesOf bs).contains nb.data.toList <;> rfl
  | form wd n a ks =>
    rw [RepE] at hR
    obtain ⟨sp, vs, hE, hF⟩ := hR
    rw [szE] at hsz hb
    rcases hF with ⟨rfl, sl, rfl, hrow⟩ | ⟨rfl, nb, sl, rfl, hz, rfl, hrow⟩ | ⟨rfl, nb, v0, rfl, hz, rfl, rfl⟩ | ⟨rfl, nb, v0, v1, rfl, hz, rfl, rfl⟩ | ⟨rfl, v0, v1, v2, rfl, rfl⟩ | ⟨rfl, v0, v1, v2, rfl, rfl⟩ | ⟨rfl, v0, rfl, rfl⟩ | ⟨hs, ob, v0, v1, rfl, rfl, rfl⟩
    · obtain ⟨ad, len, cap, rfl⟩ := row_slice hrow
      rw [nm_other (by decide) (by decide) (by decide)]
      exact ce_list IH sp ks ad len cap vs D B fs sv bs w D D2 aN aA aW hS hA hN (by omega) (by omega) hrow hE
    · obtain ⟨ad, cap, rfl⟩ : ∃ ad cap, sl = .slice ad vs.length cap := by
        rcases hrow.2 with ⟨h, h0⟩ | ⟨g, c, _, h, _⟩
        · exact ⟨none, 0, by rw [h, h0]⟩
        · exact ⟨_, _, h⟩
      have e : nmE fs (namesOf bs) (.form [99, 97, 108, 108] nb.data.toList a ks) = orE (callErr fs nb.data.toList a vs.length) (nmEs fs (namesOf bs) ks) := by
        rw [nmE, hE.length]
        rfl
      rw [e]
      exact ce_call IH sp ks nb a ad cap vs D B fs sv bs w D D2 aN aA aW hS hA hN hz (by omega) (by omega) hrow hE
    · obtain ⟨x, rfl, hx⟩ := rep_one hE
      obtain ⟨t0, x0, rfl⟩ := hx.iface
      have e : nmE fs (namesOf bs) (.form [109, 97, 112] nb.data.toList a [x]) = orE (callErr fs nb.data.toList a 1) (nmE fs (namesOf bs) x) := by
        rw [nmE, nmEs_one]
        rfl
      rw [e]
      have h1 : szEs [x] = szE x + 1 := by rw [szEs, szEs]
      exact ce_map IH sp x nb a t0 x0 B fs sv bs w D D2 aN aA aW hS hA hN hz (by omega) (by omega) hx
    · obtain ⟨x, y, rfl, hx, hy⟩ := rep_two hE
      obtain ⟨t0, x0, rfl⟩ := hx.iface
      obtain ⟨t1, x1, rfl⟩ := hy.iface
      have e : nmE fs (namesOf bs) (.form [108, 101, 116] nb.data.toList a [x, y]) = orE (nmE fs (namesOf bs) x) (nmE fs (namesOf bs ++ [nb.data.toList]) y) := by
        rw [nmE]
        have : nmLet fs (namesOf bs) nb.data.toList [x, y] = orE (nmE fs (namesOf bs) x) (nmE fs (namesOf bs ++ [nb.data.toList]) y) := by rw [nmLet, nmEs_one]
        rw [this]
        rfl
      rw [e]
      have h1 : szEs [x, y] = szE x + (szE y + 1) + 1 := by rw [szEs, szEs, szEs]
      exact ce_let IH sp x y nb a t0 t1 x0 x1 B fs sv bs w D D2 aN aA aW hS hA hN (by omega) (by omega) (by omega) (by omega) hx hy
    · obtain ⟨t0, x0, rfl⟩ := hE.ifs v0 (by simp)
      obtain ⟨t1, x1, rfl⟩ := hE.ifs v1 (by simp)
      obtain ⟨t2, x2, rfl⟩ := hE.ifs v2 (by simp)
      rw [nm_other (by decide) (by decide) (by decide)]
      exact ce_if IH sp ks t0 t1 t2 x0 x1 x2 B fs sv bs w D D2 aN aA aW hS hA hN (by omega) (by omega) hE
    · obtain ⟨t0, x0, rfl⟩ := hE.ifs v0 (by simp)
      obtain ⟨t1, x1, rfl⟩ := hE.ifs v1 (by simp)
      obtain ⟨t2, x2, rfl⟩ := hE.ifs v2 (by simp)
      rw [nm_other (by decide) (by decide) (by decide)]
      exact ce_set IH sp ks t0 t1 t2 x0 x1 x2 B fs sv bs w D D2 aN aA aW hS hA hN (by omega) (by omega) hE
    · obtain ⟨x, rfl, hx⟩ := rep_one hE
      obtain ⟨t0, x0, rfl⟩ := hx.iface
      rw [nm_other (by decide) (by decide) (by decide), nmEs_one]
      have h1 : szEs [x] = szE x + 1 := by rw [szEs, szEs]
      exact ce_len IH sp x t0 x0 B fs sv bs w D D2 aN aA aW hS hA hN (by omega) (by omega) hx
    · obtain ⟨t0, x0, rfl⟩ := hE.ifs v0 (by simp)
      obtain ⟨t1, x1, rfl⟩ := hE.ifs v1 (by simp)
      rw [nm_other (by rintro h; rw [h] at hs; revert hs; decide) (by rintro h; rw [h] at hs; revert hs; decide) (by rintro h; rw [h] at hs; revert hs; decide)]
      exact ce_binary IH sp ks ob t0 t1 x0 x1 B fs sv bs w D D2 aN aA aW hS hA hN (by omega) (by omega) hE
theorem exprDo_all : ∀ k, ExprDo k
  | 0 => exprDo_zero
  | k + 1 => exprDo_succ (exprDo_all k)
end Go.Proofs.YtdiefbahmcihlaaGreatDoor
