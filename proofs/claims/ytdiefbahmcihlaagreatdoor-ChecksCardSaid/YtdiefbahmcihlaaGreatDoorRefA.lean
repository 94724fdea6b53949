/-
  The reference: run.
-/
import Derived.Test.YtdiefbahmcihlaaGreatDoorTokA
namespace Go.Proofs.YtdiefbahmcihlaaGreatDoor
open Go.RowKit

theorem runL_from (p : UInt8 → Bool) (l : List UInt8) (a n : Nat) (h : a + n < l.length) (ht : ∀ j, j < n → ∀ hj : a + j < l.length, p (l[a + j]'hj) = true) (hf : p (l[a + n]'h) = false) : runL p (l.drop a) = n := by
  refine runL_at p _ n (by simp; omega) (fun j hj => ?_) ?_
  · rw [List.getElem_drop]; exact ht j hj _
  · rw [List.getElem_drop]; exact hf
theorem runL_to (p : UInt8 → Bool) (l : List UInt8) (a n : Nat) (h : a + n = l.length) (ht : ∀ j, j < n → ∀ hj : a + j < l.length, p (l[a + j]'hj) = true) : runL p (l.drop a) = n := by
  have := runL_all p (l.drop a) (fun j hj => by rw [List.getElem_drop]; exact ht j (by simp at hj; omega) _)
  rw [this]
  simp
  omega

set_option maxHeartbeats 1000000 in
theorem rrun_1 (s : ByteArray) (a : Nat) (w : World) (hs : s.size ≤ maxLen) (ha : a ≤ s.size) :
    Calls Tryz.prog 99 #[.string s, .int .i64 ((a : Nat) : Int), .int .i64 1] w fun e w' => e = .returned (.int .i64 (runL letter (s.data.toList.drop a))) ∧ w' = w := by
  unfold maxLen at hs
  go_enter Tryz.func99, Tryz.ntmps99
  go_wp2
  go_loop [7] (fun i => ∃ k : Nat, a + k ≤ s.size ∧ i = .int .i64 k ∧ Hid (∀ j, j < k → ∀ hj : a + j < s.data.toList.length, letter (s.data.toList[a + j]'hj) = true)) (fun i => s.size - (intOf i).toNat)
  case atStart => exact ⟨0, by omega, rfl, fun j hj _ => absurd hj (by omega)⟩
  case round =>
    obtain ⟨k, hk, rfl, hall⟩ := hrel
    by_cases hlt : a + k < s.size
    · have hl : a + k < s.data.toList.length := by simpa using hlt
      cases hp : letter s[a + k]
      · go_wp2_with (first
          | (go_at_call 97; refine (Letter_any s[a + k] _).mono ?_; rintro e w' ⟨rfl, rfl⟩)
          | (go_at_call 98; refine (Digit_any s[a + k] _).mono ?_; rintro e w' ⟨rfl, rfl⟩)
          | (go_at_call 144; refine (Plain_any s[a + k] _).mono ?_; rintro e w' ⟨rfl, rfl⟩))
        go_ret
        exact ⟨ret_int (by rw [runL_from letter s.data.toList a k hl hall.out hp]), rfl⟩
      · go_wp2_with (first
          | (go_at_call 97; refine (Letter_any s[a + k] _).mono ?_; rintro e w' ⟨rfl, rfl⟩)
          | (go_at_call 98; refine (Digit_any s[a + k] _).mono ?_; rintro e w' ⟨rfl, rfl⟩)
          | (go_at_call 144; refine (Plain_any s[a + k] _).mono ?_; rintro e w' ⟨rfl, rfl⟩))
        go_round
        case rel =>
          refine ⟨k + 1, by omega, by go_num, fun j hj h2 => ?_⟩
          by_cases e : j = k
          · subst e; exact hp
          · exact hall.out j (by omega) h2
        case measure => simp [intOf]; omega
    · go_wp2
      go_ret
      exact ⟨ret_int (by rw [runL_to letter s.data.toList a k (by simp; omega) hall.out]), rfl⟩
set_option maxHeartbeats 1000000 in
theorem rrun_2 (s : ByteArray) (a : Nat) (w : World) (hs : s.size ≤ maxLen) (ha : a ≤ s.size) :
    Calls Tryz.prog 99 #[.string s, .int .i64 ((a : Nat) : Int), .int .i64 2] w fun e w' => e = .returned (.int .i64 (runL digit (s.data.toList.drop a))) ∧ w' = w := by
  unfold maxLen at hs
  go_enter Tryz.func99, Tryz.ntmps99
  go_wp2
  go_loop [7] (fun i => ∃ k : Nat, a + k ≤ s.size ∧ i = .int .i64 k ∧ Hid (∀ j, j < k → ∀ hj : a + j < s.data.toList.length, digit (s.data.toList[a + j]'hj) = true)) (fun i => s.size - (intOf i).toNat)
  case atStart => exact ⟨0, by omega, rfl, fun j hj _ => absurd hj (by omega)⟩
  case round =>
    obtain ⟨k, hk, rfl, hall⟩ := hrel
    by_cases hlt : a + k < s.size
    · have hl : a + k < s.data.toList.length := by simpa using hlt
      cases hp : digit s[a + k]
      · go_wp2_with (first
          | (go_at_call 97; refine (Letter_any s[a + k] _).mono ?_; rintro e w' ⟨rfl, rfl⟩)
          | (go_at_call 98; refine (Digit_any s[a + k] _).mono ?_; rintro e w' ⟨rfl, rfl⟩)
          | (go_at_call 144; refine (Plain_any s[a + k] _).mono ?_; rintro e w' ⟨rfl, rfl⟩))
        go_ret
        exact ⟨ret_int (by rw [runL_from digit s.data.toList a k hl hall.out hp]), rfl⟩
      · go_wp2_with (first
          | (go_at_call 97; refine (Letter_any s[a + k] _).mono ?_; rintro e w' ⟨rfl, rfl⟩)
          | (go_at_call 98; refine (Digit_any s[a + k] _).mono ?_; rintro e w' ⟨rfl, rfl⟩)
          | (go_at_call 144; refine (Plain_any s[a + k] _).mono ?_; rintro e w' ⟨rfl, rfl⟩))
        go_round
        case rel =>
          refine ⟨k + 1, by omega, by go_num, fun j hj h2 => ?_⟩
          by_cases e : j = k
          · subst e; exact hp
          · exact hall.out j (by omega) h2
        case measure => simp [intOf]; omega
    · go_wp2
      go_ret
      exact ⟨ret_int (by rw [runL_to digit s.data.toList a k (by simp; omega) hall.out]), rfl⟩
set_option maxHeartbeats 1000000 in
theorem rrun_3 (s : ByteArray) (a : Nat) (w : World) (hs : s.size ≤ maxLen) (ha : a ≤ s.size) :
    Calls Tryz.prog 99 #[.string s, .int .i64 ((a : Nat) : Int), .int .i64 3] w fun e w' => e = .returned (.int .i64 (runL quot (s.data.toList.drop a))) ∧ w' = w := by
  unfold maxLen at hs
  go_enter Tryz.func99, Tryz.ntmps99
  go_wp2
  go_loop [7] (fun i => ∃ k : Nat, a + k ≤ s.size ∧ i = .int .i64 k ∧ Hid (∀ j, j < k → ∀ hj : a + j < s.data.toList.length, quot (s.data.toList[a + j]'hj) = true)) (fun i => s.size - (intOf i).toNat)
  case atStart => exact ⟨0, by omega, rfl, fun j hj _ => absurd hj (by omega)⟩
  case round =>
    obtain ⟨k, hk, rfl, hall⟩ := hrel
    by_cases hlt : a + k < s.size
    · have hl : a + k < s.data.toList.length := by simpa using hlt
      cases hp : quot s[a + k]
      · go_wp2_with (first
          | (go_at_call 97; refine (Letter_any s[a + k] _).mono ?_; rintro e w' ⟨rfl, rfl⟩)
          | (go_at_call 98; refine (Digit_any s[a + k] _).mono ?_; rintro e w' ⟨rfl, rfl⟩)
          | (go_at_call 144; refine (Plain_any s[a + k] _).mono ?_; rintro e w' ⟨rfl, rfl⟩))
        go_ret
        exact ⟨ret_int (by rw [runL_from quot s.data.toList a k hl hall.out hp]), rfl⟩
      · go_wp2_with (first
          | (go_at_call 97; refine (Letter_any s[a + k] _).mono ?_; rintro e w' ⟨rfl, rfl⟩)
          | (go_at_call 98; refine (Digit_any s[a + k] _).mono ?_; rintro e w' ⟨rfl, rfl⟩)
          | (go_at_call 144; refine (Plain_any s[a + k] _).mono ?_; rintro e w' ⟨rfl, rfl⟩))
        go_round
        case rel =>
          refine ⟨k + 1, by omega, by go_num, fun j hj h2 => ?_⟩
          by_cases e : j = k
          · subst e; exact hp
          · exact hall.out j (by omega) h2
        case measure => simp [intOf]; omega
    · go_wp2
      go_ret
      exact ⟨ret_int (by rw [runL_to quot s.data.toList a k (by simp; omega) hall.out]), rfl⟩
end Go.Proofs.YtdiefbahmcihlaaGreatDoor

/-
  The reference: Tokens: plain facts.
-/
namespace Go.Proofs.YtdiefbahmcihlaaGreatDoor
theorem len_d (s : ByteArray) : s.data.toList.length = s.size := Array.length_toList
/-- What a byte that is no blank begins. -/
theorem next_is {s : List UInt8} {i : Nat} (hi : i < s.length) (hb : blank s[i] = false) {k : K} {n : Nat} (hm : measureL (s.drop i) = (k, n)) : nextTok s i = ⟨k, i, (s.drop i).take n⟩ := by
  rw [nextTok_here s i (fun _ => hb), hm]
theorem meas_opn {s : List UInt8} {i : Nat} (hi : i < s.length) (h : s[i] = 40) : measureL (s.drop i) = (.opn, 1) := by
  rw [List.drop_eq_getElem_cons hi, h]; simp [measureL]
theorem meas_cls {s : List UInt8} {i : Nat} (hi : i < s.length) (h : s[i] = 41) : measureL (s.drop i) = (.cls, 1) := by
  rw [List.drop_eq_getElem_cons hi, h]; simp [measureL]
theorem letter_not {c : UInt8} (h : letter c = true) : (c == 40) = false ∧ (c == 41) = false ∧ (c == 39) = false ∧ (c == 45) = false ∧ digit c = false := by
  rw [letter_iff] at h
  have hd : ¬ digit c = true := by rw [digit_iff]; omega
  refine ⟨?_, ?_, ?_, ?_, by simpa using hd⟩ <;> (simp [← UInt8.toNat_inj]; omega)
theorem digit_not {c : UInt8} (h : digit c = true) : (c == 40) = false ∧ (c == 41) = false ∧ (c == 39) = false ∧ (c == 45) = false ∧ letter c = false := by
  rw [digit_iff] at h
  have hd : ¬ letter c = true := by rw [letter_iff]; omega
  refine ⟨?_, ?_, ?_, ?_, by simpa using hd⟩ <;> (simp [← UInt8.toNat_inj]; omega)
theorem meas_word {s : List UInt8} {i : Nat} (hi : i < s.length) (h : letter s[i] = true) : measureL (s.drop i) = if 8 < runL letter (s.drop i) then (.bad, 0) else (.word, runL letter (s.drop i)) := by
  obtain ⟨a, b, c, d, e⟩ := letter_not h
  have q : s.drop i = s[i] :: s.drop (i + 1) := List.drop_eq_getElem_cons hi
  rw [show measureL (s.drop i) = kindOf .word (wordL (s.drop i)) by rw [q]; simp [measureL, a, b, c, d, e, h]]
  unfold wordL
  split <;> rfl
theorem meas_digit {s : List UInt8} {i : Nat} (hi : i < s.length) (h : digit s[i] = true) : measureL (s.drop i) = if 9 < runL digit (s.drop i) then (.bad, 0) else (.num, runL digit (s.drop i)) := by
  obtain ⟨a, b, c, d, e⟩ := digit_not h
  have q : s.drop i = s[i] :: s.drop (i + 1) := List.drop_eq_getElem_cons hi
  have hu : unsignL (s.drop i) = s.drop i := by
    unfold unsignL
    rw [show startsB 45 (s.drop i) = false by rw [q]; generalize s[i] = c at d; simpa [startsB] using d]
    rfl
  have hr : 0 < runL digit (s.drop i) := by rw [q, runL_cons_true digit _ _ h]; omega
  rw [show measureL (s.drop i) = kindOf .num (numL (s.drop i)) by rw [q]; simp [measureL, a, b, c, h]]
  unfold numL
  rw [hu]
  by_cases h9 : 9 < runL digit (s.drop i)
  · simp [h9, kindOf]
  · rw [if_neg (by omega), if_neg h9]
    simp [kindOf]
theorem meas_minus {s : List UInt8} {i : Nat} (hi : i < s.length) (h : s[i] = 45) : measureL (s.drop i) = if runL digit (s.drop (i + 1)) = 0 ∨ 9 < runL digit (s.drop (i + 1)) then (.bad, 0) else (.num, 1 + runL digit (s.drop (i + 1))) := by
  have q : s.drop i = 45 :: s.drop (i + 1) := by rw [List.drop_eq_getElem_cons hi, h]
  have hu : unsignL (s.drop i) = s.drop (i + 1) := by
    unfold unsignL
    rw [show startsB 45 (s.drop i) = true by rw [q]; rfl]
    rw [q]; rfl
  rw [show measureL (s.drop i) = kindOf .num (numL (s.drop i)) by rw [q]; simp [measureL]]
  unfold numL
  rw [hu]
  by_cases h9 : runL digit (s.drop (i + 1)) = 0 ∨ 9 < runL digit (s.drop (i + 1))
  · rw [if_pos h9, if_pos h9]; rfl
  · rw [if_neg h9, if_neg h9]
    simp only [kindOf, List.length_drop]
    rw [show s.length - i - (s.length - (i + 1)) = 1 by omega]
theorem meas_text {s : List UInt8} {i : Nat} (hi : i < s.length) (h : s[i] = 39) : measureL (s.drop i) = if 20 < runL quot (s.drop (i + 1)) ∨ s[i + 1 + runL quot (s.drop (i + 1))]? ≠ some 39 then (.bad, 0) else (.txt, runL quot (s.drop (i + 1)) + 2) := by
  have q : s.drop i = 39 :: s.drop (i + 1) := by rw [List.drop_eq_getElem_cons hi, h]
  rw [show measureL (s.drop i) = kindOf .txt (textL (s.drop i)) by rw [q]; simp [measureL]]
  unfold textL
  rw [show (s.drop i).drop 1 = s.drop (i + 1) by rw [List.drop_drop]]
  have hs : (startsB 39 ((s.drop (i + 1)).drop (runL quot (s.drop (i + 1)))) = false) ↔ s[i + 1 + runL quot (s.drop (i + 1))]? ≠ some 39 := by
    simp only [startsB, List.getElem?_drop, Nat.add_zero, beq_eq_false_iff_ne]
  by_cases h9 : 20 < runL quot (s.drop (i + 1)) ∨ s[i + 1 + runL quot (s.drop (i + 1))]? ≠ some 39
  · rw [if_pos h9, if_pos (by rw [hs]; exact h9)]; rfl
  · rw [if_neg h9, if_neg (by rw [hs]; exact h9)]; rfl
theorem meas_other {s : List UInt8} {i : Nat} (hi : i < s.length) (h1 : s[i] ≠ 40) (h2 : s[i] ≠ 41) (h3 : s[i] ≠ 39) (h4 : s[i] ≠ 45) (h5 : digit s[i] = false) (h6 : letter s[i] = false) : measureL (s.drop i) = (.bad, 0) := by
  rw [List.drop_eq_getElem_cons hi]
  simp [measureL, h1, h2, h3, h4, h5, h6]
end Go.Proofs.YtdiefbahmcihlaaGreatDoor
