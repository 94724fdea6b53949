/-
  Back: shape: a list.
-/
import Derived.Test.YtifhgjpglicjbaaGreatDoorShB
import Derived.Deep.LoopGhost
namespace Go.Proofs.YtifhgjpglicjbaaGreatDoor
open Go.RowKit Go.Lib
attribute [local go_sem ↓] Go.wp_at_zero Go.wp_at_succ

/-- In the midst of a list. -/
structure ShI (d : Nat) (raw : List Int) (N : Nat) (w wr : World) (j used : Nat) (acc : List PV) : Prop where
  eq : kidsS (shapeA d) raw N 1 = (acc ++ (kidsS (shapeA d) raw (N - j) used).1, (kidsS (shapeA d) raw (N - j) used).2)
  len : acc.length = j
  ule : used ≤ raw.length
  bel : Below w.heap.size w wr
  wt : wtVs acc ≤ 7 * used + j
  ok : okVs acc
theorem ShI.str {d : Nat} {raw : List Int} {N : Nat} {w wr : World} {j used : Nat} {acc : List PV} (h : ShI d raw N w wr j used acc) (hr : raw.length ≤ 60) (hj : j ≤ 4) : (wrVs acc).length ≤ 20000 := by
  have := wrV_len (.lst acc) (by rw [okV]; exact h.ok)
  rw [wrV, wtV] at this
  have h1 := h.wt
  have h2 := h.ule
  simp at this
  omega
theorem ShI.next {d : Nat} {raw : List Int} {N : Nat} {w wr w' : World} {j used : Nat} {acc : List PV} (h : ShI d raw N w wr j used acc) (hj : j < N) (hall : ∀ x ∈ raw, In64 x) (hb : Below wr.heap.size wr w') :
    ShI d raw N w w' (j + 1) (used + (shapeA d (raw.drop used)).2) (acc ++ [(shapeA d (raw.drop used)).1]) ∧ (wrVs (acc ++ [(shapeA d (raw.drop used)).1]) = if j = 0 then wrV (shapeA d (raw.drop used)).1 else wrVs acc ++ 32 :: wrV (shapeA d (raw.drop used)).1) := by
  have hg := shape_good d (raw.drop used) fun x hx => hall x (List.mem_of_mem_drop hx)
  have hle := hg.le
  rw [List.length_drop] at hle
  have hu := h.ule
  refine ⟨⟨?_, by rw [List.length_append, h.len]; rfl, by omega, h.bel.trans (hb.mono h.bel.size), ?_, okVs_snoc h.ok hg.ok⟩, ?_⟩
  · rw [h.eq]
    have e : N - j = (N - (j + 1)) + 1 := by omega
    rw [e, kidsS]
    simp
  · rw [wtVs_snoc]
    have h1 := h.wt
    have h2 := hg.wt
    omega
  · rw [wrVs_snoc]
    have hl := h.len
    cases acc with
    | nil => simp at hl; rw [← hl]; simp
    | cons x xs => simp at hl; rw [if_neg (by simp), if_neg (by omega)]
theorem ints_drop {w : World} {g o cap : Nat} {raw : List Int} (h : IntsAt w (.slice (some ⟨g, o, none⟩) raw.length cap) raw) (u : Nat) (hu : u ≤ raw.length) (A : Option Addr) (hA : u < raw.length → A = some ⟨g, o + u, none⟩) : IntsAt w (.slice A (raw.length - u) (cap - u)) (raw.drop u) := by
  obtain ⟨ad, cap', h1, h2, h3, h4⟩ := h
  cases h1
  refine ⟨A, cap - u, by rw [List.length_drop], by rw [List.length_drop]; omega, by omega, fun j hj => ?_⟩
  rw [List.length_drop] at hj
  obtain ⟨g', o', e, hc⟩ := h4 (u + j) (by omega)
  cases e
  refine ⟨g, o + u, hA (by omega), ?_⟩
  rw [Nat.add_assoc, hc, List.getElem_drop]
set_option maxRecDepth 8000 in
set_option maxHeartbeats 600000 in
theorem shape_lst (d : Nat) (a : Int) (r : List Int) (sl : Value) (w : World) (h : IntsAt w sl (a :: r)) (hall : ∀ x ∈ a :: r, In64 x) (hl : (a :: r).length ≤ 60) (hk4 : ¬ pickA a 6 < 4) (hd5 : d + 1 ≤ 5)
    (IH0 : ∀ raw' sl' X, raw'.length ≤ 60 → (∀ x ∈ raw', In64 x) → IntsAt X sl' raw' → Calls Tryz.prog 13 #[sl', .int .i64 ((d : Nat) : Int)] X (ksP d raw' X)) : Calls Tryz.prog 13 #[sl, .int .i64 (((d + 1 : Nat)) : Int)] w (ksP (d + 1) (a :: r) w) := by
  obtain ⟨g, o, cap, rfl, _, h1, h2, hc⟩ := h.cell (by simp)
  have c0 : w.cell? ⟨g, o, none⟩ = some (.int .i64 a) := by have := hc 0 (by simp); simpa [intsV] using this
  have ha := hall a (by simp)
  have CP : Hid (∀ X, Calls Tryz.prog 10 #[.int .i64 a, .int .i64 6] X fun e w' => e = .returned (.int .i64 ((pickA a 6 : Nat) : Int)) ∧ w' = X) := fun X => pick_any a 6 X ha (by omega) (by omega)
  have CQ : Hid (∀ X, Calls Tryz.prog 10 #[.int .i64 (a.tdiv 6), .int .i64 4] X fun e w' => e = .returned (.int .i64 ((pickA (a.tdiv 6) 4 : Nat) : Int)) ∧ w' = X) := fun X => pick_any (a.tdiv 6) 4 X (tdiv6 ha) (by omega) (by omega)
  have ST : Hid (ShI d (a :: r) (pickA (a.tdiv 6) 4) w w 0 1 []) := ⟨by simp, rfl, by simp, Below.refl _ _, by simp [wtVs], by rw [okVs]; trivial⟩
  have C0 : Hid (∀ wr j used acc, ShI d (a :: r) (pickA (a.tdiv 6) 4) w wr j used acc → wr.cell? ⟨g, o, none⟩ = some (.int .i64 a) ∧ used ≤ r.length + 1 ∧ (j ≤ 4 → (wrVs acc).length ≤ 20000)) := fun wr j used acc hA => ⟨Below.cellv hA.bel c0, hA.ule, hA.str hl⟩
  have STEP : Hid (∀ wr j used acc A, ShI d (a :: r) (pickA (a.tdiv 6) 4) w wr j used acc → j < pickA (a.tdiv 6) 4 → (used < r.length + 1 → A = some ⟨g, o + used, none⟩) → Calls Tryz.prog 13 #[.slice A (r.length + 1 - used) (cap - used), .int .i64 ((d : Nat) : Int)] wr fun e w' => ∃ (t : List UInt8) (n : Nat), e = .returned (.tuple #[.string ⟨t.toArray⟩, .int .i64 ((n : Nat) : Int)]) ∧ t.length ≤ 20000 ∧ n ≤ 60 ∧ ∃ acc', ShI d (a :: r) (pickA (a.tdiv 6) 4) w w' (j + 1) (used + n) acc' ∧ (j = 0 → (⟨(40 :: wrVs acc).toArray⟩ : ByteArray) ++ ⟨t.toArray⟩ = ⟨(40 :: wrVs acc').toArray⟩) ∧ (0 < j → (⟨(40 :: wrVs acc).toArray⟩ : ByteArray) ++ ⟨#[32]⟩ ++ ⟨t.toArray⟩ = ⟨(40 :: wrVs acc').toArray⟩)) := fun wr j used acc A hA hj hAd => by
    have hi : IntsAt wr (.slice (some ⟨g, o, none⟩) (a :: r).length cap) (a :: r) := h.below hA.bel
    have hd := ints_drop hi used hA.ule A hAd
    refine (IH0 _ _ wr (by rw [List.length_drop]; simp at hl ⊢; omega) (fun x hx => hall x (List.mem_of_mem_drop hx)) hd).mono fun e w' hp => ?_
    obtain ⟨he, hb⟩ := hp
    obtain ⟨n1, n2⟩ := hA.next hj hall hb
    have hg := shape_good d ((a :: r).drop used) fun x hx => hall x (List.mem_of_mem_drop hx)
    have hle := hg.le
    have hw := hg.wt
    have hwl := wrV_len _ hg.ok
    rw [List.length_drop] at hle
    simp at hle hl
    refine ⟨_, _, he, by omega, by omega, _, n1, fun h0 => ?_, fun h0 => ?_⟩
    · have : acc = [] := List.eq_nil_of_length_eq_zero (by rw [hA.len]; exact h0)
      rw [n2, if_pos h0, this]
      apply ByteArray.ext
      simp [wrVs]
    · rw [n2, if_neg (by omega)]
      apply ByteArray.ext
      simp
  have DONE : Hid (∀ wr j used acc, ShI d (a :: r) (pickA (a.tdiv 6) 4) w wr j used acc → ¬ j < pickA (a.tdiv 6) 4 → j ≤ pickA (a.tdiv 6) 4 → ksP (d + 1) (a :: r) w (.returned (.tuple #[.string ((⟨(40 :: wrVs acc).toArray⟩ : ByteArray) ++ ⟨#[41]⟩), .int .i64 ((used : Nat) : Int)])) wr) := fun wr j used acc hA hj hj2 => by
    have e := hA.eq
    rw [show pickA (a.tdiv 6) 4 - j = 0 by omega, kidsS, List.append_nil] at e
    refine ⟨?_, hA.bel⟩
    rw [shapeA, if_neg hk4, e]
    have : (⟨(40 :: wrVs acc).toArray⟩ : ByteArray) ++ ⟨#[41]⟩ = ⟨(wrV (.lst acc)).toArray⟩ := by
      apply ByteArray.ext
      rw [wrV]
      simp
    rw [this]
  obtain ⟨ha1, ha2⟩ : -9223372036854775808 ≤ a ∧ a ≤ 9223372036854775807 := ha
  have hN := pickA_lt (c := a.tdiv 6) (n := 4) (by omega)
  unfold maxLen at h2
  simp only [List.length_cons] at *
  generalize pickA a 6 = k at *
  generalize pickA (a.tdiv 6) 4 = N at *
  obtain ⟨L, hL⟩ : ∃ L, L = r.length + 1 := ⟨_, rfl⟩
  rw [← hL] at STEP C0 h1 hl ⊢
  have hL0 : (0 : Int) < (L : Int) := by omega
  have hln : (L : Int) ≤ 60 := by omega
  clear hL
  have hk2d : decide ((k : Int) < 2) = false := by simp; omega
  have hk4i : ¬ (k : Int) < 4 := by omega
  have hd5i : (d : Int) ≤ 4 := by omega
  have hdn : ((d : Int) + 1 == 0) = false := by simp; omega
  have hNi : (N : Int) < 4 := by omega
  have hci : (L : Int) ≤ (cap : Int) := by omega
  have hcm : (cap : Int) ≤ 9223372036854775807 := by omega
  clear h hc IH0 hall
  go_enter Tryz.func13, Tryz.ntmps13
  go_wp2_with (first | (go_at_call 10; refine (CP.out _).mono ?_; rintro e w1 ⟨rfl, rfl⟩; clear CP))
  go_loopg [7, 8, 9] N (fun gh sv uv iv wr => ∃ (j used : Nat) (acc : List PV), gh = N - j ∧ sv = .string ⟨(40 :: wrVs acc).toArray⟩ ∧ uv = .int .i64 ((used : Nat) : Int) ∧ iv = .int .i64 ((j : Nat) : Int) ∧ j ≤ N ∧ Aside (ShI d (a :: r) N w1 wr j used acc))
  case atStart => exact ⟨0, 1, [], by omega, rfl, rfl, rfl, Nat.zero_le _, (show ShI d (a :: r) N w1 _ 0 1 [] from ST.out)⟩
  case round =>
    obtain ⟨j, used, acc, rfl, rfl, rfl, rfl, hj, hA⟩ := hrel
    obtain ⟨d0, hu, hst⟩ := C0.out _ _ _ _ hA.out
    have hst := hst (by omega)
    have hui : (used : Int) ≤ (L : Int) := by omega
    by_cases hlt : j < N
    · have hji : (j : Int) < (N : Int) := by omega
      by_cases hcu : cap = used
      · have CS := STEP.out wr j used acc (some ⟨g, o, none⟩) hA.out hlt (fun hh => by omega)
        have hur : used = L := by omega
        subst hur
        subst hcu
        simp only [Nat.sub_self] at CS
        clear hA C0 ST STEP DONE hu hui
        by_cases hj0 : j = 0
        · subst hj0
          go_wp2_with (first | (go_at_call 10; refine (CQ.out _).mono ?_; rintro e w2 ⟨rfl, rfl⟩))
          refine CS.mono ?_
          rintro e w3 ⟨t, n, rfl, ht, hn, acc', hI, hE, hE2⟩
          have HI : Hid _ := hI
          have HE : Hid _ := hE
          have HE2 : Hid _ := hE2
          clear hI hE hE2 CS
          have hti : (t.length : Int) ≤ 20000 := by omega
          have hni : (n : Int) ≤ 60 := by omega
          go_wp2_with fail
          go_roundg (N - (0 + 1))
          case measure => omega
          case rel => exact ⟨0 + 1, cap + n, acc', rfl, by rw [← HE.out (by simp)], by go_num, by go_num, by omega, (show ShI d (a :: r) N _ _ (0 + 1) (cap + n) acc' from HI.out)⟩
        · have hj0i : 0 < (j : Int) := by omega
          go_wp2_with (first | (go_at_call 10; refine (CQ.out _).mono ?_; rintro e w2 ⟨rfl, rfl⟩))
          refine CS.mono ?_
          rintro e w3 ⟨t, n, rfl, ht, hn, acc', hI, hE, hE2⟩
          have HI : Hid _ := hI
          have HE : Hid _ := hE
          have HE2 : Hid _ := hE2
          clear hI hE hE2 CS
          have hti : (t.length : Int) ≤ 20000 := by omega
          have hni : (n : Int) ≤ 60 := by omega
          go_wp2_with fail
          go_roundg (N - (j + 1))
          case measure => omega
          case rel => exact ⟨j + 1, cap + n, acc', rfl, by rw [← HE2.out (by omega)], by go_num, by go_num, by omega, (show ShI d (a :: r) N _ _ (j + 1) (cap + n) acc' from HI.out)⟩
      · have CS := STEP.out wr j used acc (some ⟨g, o + used, none⟩) hA.out hlt (fun _ => rfl)
        have hcu2 : ¬ (cap : Int) = (used : Int) := by omega
        have hcu3 : ¬ used = cap := by omega
        have hmin : min (used : Int) (L : Int) = (used : Int) := by omega
        clear hA C0 ST STEP DONE
        by_cases hj0 : j = 0
        · subst hj0
          go_wp2_with (first | (go_at_call 10; refine (CQ.out _).mono ?_; rintro e w2 ⟨rfl, rfl⟩))
          refine CS.mono ?_
          rintro e w3 ⟨t, n, rfl, ht, hn, acc', hI, hE, hE2⟩
          have HI : Hid _ := hI
          have HE : Hid _ := hE
          have HE2 : Hid _ := hE2
          clear hI hE hE2 CS
          have hti : (t.length : Int) ≤ 20000 := by omega
          have hni : (n : Int) ≤ 60 := by omega
          go_wp2_with fail
          go_roundg (N - (0 + 1))
          case measure => omega
          case rel => exact ⟨0 + 1, used + n, acc', rfl, by rw [← HE.out (by simp)], by go_num, by go_num, by omega, (show ShI d (a :: r) N _ _ (0 + 1) (used + n) acc' from HI.out)⟩
        · have hj0i : 0 < (j : Int) := by omega
          go_wp2_with (first | (go_at_call 10; refine (CQ.out _).mono ?_; rintro e w2 ⟨rfl, rfl⟩))
          refine CS.mono ?_
          rintro e w3 ⟨t, n, rfl, ht, hn, acc', hI, hE, hE2⟩
          have HI : Hid _ := hI
          have HE : Hid _ := hE
          have HE2 : Hid _ := hE2
          clear hI hE hE2 CS
          have hti : (t.length : Int) ≤ 20000 := by omega
          have hni : (n : Int) ≤ 60 := by omega
          go_wp2_with fail
          go_roundg (N - (j + 1))
          case measure => omega
          case rel => exact ⟨j + 1, used + n, acc', rfl, by rw [← HE2.out (by omega)], by go_num, by go_num, by omega, (show ShI d (a :: r) N _ _ (j + 1) (used + n) acc' from HI.out)⟩
    · have D := DONE.out wr j used acc hA.out hlt hj
      have FI : Hid _ := D
      have hji : ¬ (j : Int) < (N : Int) := by omega
      clear D hA C0 ST STEP DONE
      go_wp2_with (first | (go_at_call 10; refine (CQ.out _).mono ?_; rintro e w2 ⟨rfl, rfl⟩))
      go_ret2
      exact FI.out
theorem shape_any : ∀ (d : Nat), d ≤ 5 → ∀ (raw : List Int) (sl : Value) (w : World), raw.length ≤ 60 → (∀ x ∈ raw, In64 x) → IntsAt w sl raw → Calls Tryz.prog 13 #[sl, .int .i64 ((d : Nat) : Int)] w (ksP d raw w)
  | d, _, [], sl, w, _, _, h => shape_nil d sl w h
  | 0, _, a :: r, sl, w, hl, hall, h => shape_num 0 a r sl w h (hall a (by simp)) hl (Or.inr rfl)
  | d + 1, hd, a :: r, sl, w, hl, hall, h => by
    by_cases h2 : pickA a 6 < 2
    · exact shape_num (d + 1) a r sl w h (hall a (by simp)) hl (Or.inl h2)
    · by_cases h4 : pickA a 6 < 4
      · exact shape_txt (d + 1) a r sl w h (hall a (by simp)) hl h2 h4 (by omega) hd
      · exact shape_lst d a r sl w h hall hl h4 hd fun raw' sl' X h1 h2 h3 => shape_any d (by omega) raw' sl' X h1 h2 h3
end Go.Proofs.YtifhgjpglicjbaaGreatDoor
