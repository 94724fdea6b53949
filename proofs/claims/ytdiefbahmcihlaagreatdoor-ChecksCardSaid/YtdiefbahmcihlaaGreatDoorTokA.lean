/-
  What the small functions of package token answer, for every byte and every text.
-/
import Derived.Test.YtdiefbahmcihlaaGreatDoorRows
import Derived.Test.YtdiefbahmcihlaaGreatDoorPure
import Derived.WalkKit
import Derived.WalkSpells
import Derived.WalkLawsBesides
import Derived.Deep.QuietTactic
import Derived.BigQuiet
import Derived.Lib.IndexBytes
namespace Go.Proofs.YtdiefbahmcihlaaGreatDoor
open Go.RowKit

/-- A byte as a value. -/
abbrev B (c : UInt8) : Value := .int .u8 (c.toNat : Int)
theorem ret_bool {a b : Bool} (h : a = b) : Ending.returned (.bool a) = .returned (.bool b) := by rw [h]
theorem ret_int {k : IntKind} {a b : Int} (h : a = b) : Ending.returned (.int k a) = .returned (.int k b) := by rw [h]
theorem blank_iff (c : UInt8) : blank c = true ↔ (c.toNat : Int) = 32 ∨ (c.toNat : Int) = 10 := by
  simp [blank, ← UInt8.toNat_inj]; omega
theorem digit_iff (c : UInt8) : digit c = true ↔ 48 ≤ (c.toNat : Int) ∧ (c.toNat : Int) ≤ 57 := by
  simp [digit, UInt8.le_iff_toNat_le]; omega
theorem letter_iff (c : UInt8) : letter c = true ↔ 97 ≤ (c.toNat : Int) ∧ (c.toNat : Int) ≤ 122 := by
  simp [letter, UInt8.le_iff_toNat_le]; omega
theorem quot_iff (c : UInt8) : quot c = true ↔ (32 ≤ (c.toNat : Int) ∧ (c.toNat : Int) ≤ 126) ∧ (c.toNat : Int) ≠ 39 := by
  simp [quot, UInt8.le_iff_toNat_le, ← UInt8.toNat_inj]; omega

theorem isBlank_any (c : UInt8) (w : World) : Calls Tryz.prog 163 #[B c] w fun e w' => e = .returned (.bool (blank c)) ∧ w' = w := by
  go_enter Tryz.func163, Tryz.ntmps163
  go_wp2
  all_goals (go_ret; exact ⟨ret_bool (Bool.eq_iff_iff.2 (by rw [blank_iff]; simp <;> omega)), rfl⟩)
theorem isDigit_any (c : UInt8) (w : World) : Calls Tryz.prog 206 #[B c] w fun e w' => e = .returned (.bool (digit c)) ∧ w' = w := by
  go_enter Tryz.func206, Tryz.ntmps206
  go_wp2
  all_goals (go_ret; exact ⟨ret_bool (Bool.eq_iff_iff.2 (by rw [digit_iff]; simp <;> omega)), rfl⟩)
theorem isLetter_any (c : UInt8) (w : World) : Calls Tryz.prog 208 #[B c] w fun e w' => e = .returned (.bool (letter c)) ∧ w' = w := by
  go_enter Tryz.func208, Tryz.ntmps208
  go_wp2
  all_goals (go_ret; exact ⟨ret_bool (Bool.eq_iff_iff.2 (by rw [letter_iff]; simp <;> omega)), rfl⟩)
theorem isQuotable_any (c : UInt8) (w : World) : Calls Tryz.prog 53 #[B c] w fun e w' => e = .returned (.bool (quot c)) ∧ w' = w := by
  go_enter Tryz.func53, Tryz.ntmps53
  go_wp2
  all_goals (go_ret; exact ⟨ret_bool (Bool.eq_iff_iff.2 (by rw [quot_iff]; simp <;> omega)), rfl⟩)

/-- The same of the reference. -/
theorem Letter_any (c : UInt8) (w : World) : Calls Tryz.prog 97 #[B c] w fun e w' => e = .returned (.bool (letter c)) ∧ w' = w := by
  go_enter Tryz.func97, Tryz.ntmps97
  go_wp2
  all_goals (go_ret; exact ⟨ret_bool (Bool.eq_iff_iff.2 (by rw [letter_iff]; simp <;> omega)), rfl⟩)
theorem Digit_any (c : UInt8) (w : World) : Calls Tryz.prog 98 #[B c] w fun e w' => e = .returned (.bool (digit c)) ∧ w' = w := by
  go_enter Tryz.func98, Tryz.ntmps98
  go_wp2
  all_goals (go_ret; exact ⟨ret_bool (Bool.eq_iff_iff.2 (by rw [digit_iff]; simp <;> omega)), rfl⟩)
theorem Plain_any (c : UInt8) (w : World) : Calls Tryz.prog 144 #[B c] w fun e w' => e = .returned (.bool (quot c)) ∧ w' = w := by
  go_enter Tryz.func144, Tryz.ntmps144
  go_wp2
  all_goals (go_ret; exact ⟨ret_bool (Bool.eq_iff_iff.2 (by rw [quot_iff]; simp <;> omega)), rfl⟩)

theorem data_at (s : ByteArray) (i : Nat) (h : i < s.size) : s.data.toList[i]'(by simpa using h) = s[i] := rfl

set_option maxHeartbeats 400000 in
theorem run_isBlank (s : ByteArray) (w : World) (hs : s.size ≤ maxLen) :
    Calls Tryz.prog 89 #[.string s, .func (.func 163) #[] #[]] w fun e w' => e = .returned (.int .i64 (runL blank s.data.toList)) ∧ w' = w := by
  unfold maxLen at hs
  go_enter Tryz.func89, Tryz.ntmps89
  go_wp2
  go_loop [8] (fun i => ∃ k : Nat, k ≤ s.size ∧ i = .int .i64 k ∧ Hid (∀ j (hj : j < k) (hk : j < s.data.toList.length), blank s.data.toList[j] = true)) (fun i => s.size - (intOf i).toNat)
  case atStart => exact ⟨0, Nat.zero_le _, rfl, fun j hj _ => absurd hj (by omega)⟩
  case round =>
    obtain ⟨k, hk, rfl, hall⟩ := hrel
    by_cases hlt : k < s.size
    · cases hp : blank s[k]
      · go_wp2_with (go_at_call 163; refine (isBlank_any s[k] _).mono ?_; rintro e w' ⟨rfl, rfl⟩)
        go_ret
        exact ⟨ret_int (by rw [runL_at blank s.data.toList k (by simpa using hlt) (fun j hj => hall.out j hj (by simp; omega)) hp]), rfl⟩
      · go_wp2_with (go_at_call 163; refine (isBlank_any s[k] _).mono ?_; rintro e w' ⟨rfl, rfl⟩)
        go_round
        case rel =>
          refine ⟨k + 1, by omega, by go_num, fun j hj hk => ?_⟩
          by_cases e : j = k
          · subst e; exact hp
          · exact hall.out j (by omega) hk
        case measure => simp [intOf]; omega
    · go_wp2
      go_ret
      exact ⟨ret_int (by rw [runL_all blank _ (fun j hj => hall.out j (by simp at hj; omega) hj)]; simp), rfl⟩
set_option maxHeartbeats 400000 in
theorem run_isDigit (s : ByteArray) (w : World) (hs : s.size ≤ maxLen) :
    Calls Tryz.prog 89 #[.string s, .func (.func 206) #[] #[]] w fun e w' => e = .returned (.int .i64 (runL digit s.data.toList)) ∧ w' = w := by
  unfold maxLen at hs
  go_enter Tryz.func89, Tryz.ntmps89
  go_wp2
  go_loop [8] (fun i => ∃ k : Nat, k ≤ s.size ∧ i = .int .i64 k ∧ Hid (∀ j (hj : j < k) (hk : j < s.data.toList.length), digit s.data.toList[j] = true)) (fun i => s.size - (intOf i).toNat)
  case atStart => exact ⟨0, Nat.zero_le _, rfl, fun j hj _ => absurd hj (by omega)⟩
  case round =>
    obtain ⟨k, hk, rfl, hall⟩ := hrel
    by_cases hlt : k < s.size
    · cases hp : digit s[k]
      · go_wp2_with (go_at_call 206; refine (isDigit_any s[k] _).mono ?_; rintro e w' ⟨rfl, rfl⟩)
        go_ret
        exact ⟨ret_int (by rw [runL_at digit s.data.toList k (by simpa using hlt) (fun j hj => hall.out j hj (by simp; omega)) hp]), rfl⟩
      · go_wp2_with (go_at_call 206; refine (isDigit_any s[k] _).mono ?_; rintro e w' ⟨rfl, rfl⟩)
        go_round
        case rel =>
          refine ⟨k + 1, by omega, by go_num, fun j hj hk => ?_⟩
          by_cases e : j = k
          · subst e; exact hp
          · exact hall.out j (by omega) hk
        case measure => simp [intOf]; omega
    · go_wp2
      go_ret
      exact ⟨ret_int (by rw [runL_all digit _ (fun j hj => hall.out j (by simp at hj; omega) hj)]; simp), rfl⟩
set_option maxHeartbeats 400000 in
theorem run_isLetter (s : ByteArray) (w : World) (hs : s.size ≤ maxLen) :
    Calls Tryz.prog 89 #[.string s, .func (.func 208) #[] #[]] w fun e w' => e = .returned (.int .i64 (runL letter s.data.toList)) ∧ w' = w := by
  unfold maxLen at hs
  go_enter Tryz.func89, Tryz.ntmps89
  go_wp2
  go_loop [8] (fun i => ∃ k : Nat, k ≤ s.size ∧ i = .int .i64 k ∧ Hid (∀ j (hj : j < k) (hk : j < s.data.toList.length), letter s.data.toList[j] = true)) (fun i => s.size - (intOf i).toNat)
  case atStart => exact ⟨0, Nat.zero_le _, rfl, fun j hj _ => absurd hj (by omega)⟩
  case round =>
    obtain ⟨k, hk, rfl, hall⟩ := hrel
    by_cases hlt : k < s.size
    · cases hp : letter s[k]
      · go_wp2_with (go_at_call 208; refine (isLetter_any s[k] _).mono ?_; rintro e w' ⟨rfl, rfl⟩)
        go_ret
        exact ⟨ret_int (by rw [runL_at letter s.data.toList k (by simpa using hlt) (fun j hj => hall.out j hj (by simp; omega)) hp]), rfl⟩
      · go_wp2_with (go_at_call 208; refine (isLetter_any s[k] _).mono ?_; rintro e w' ⟨rfl, rfl⟩)
        go_round
        case rel =>
          refine ⟨k + 1, by omega, by go_num, fun j hj hk => ?_⟩
          by_cases e : j = k
          · subst e; exact hp
          · exact hall.out j (by omega) hk
        case measure => simp [intOf]; omega
    · go_wp2
      go_ret
      exact ⟨ret_int (by rw [runL_all letter _ (fun j hj => hall.out j (by simp at hj; omega) hj)]; simp), rfl⟩
set_option maxHeartbeats 400000 in
theorem run_isQuotable (s : ByteArray) (w : World) (hs : s.size ≤ maxLen) :
    Calls Tryz.prog 89 #[.string s, .func (.func 53) #[] #[]] w fun e w' => e = .returned (.int .i64 (runL quot s.data.toList)) ∧ w' = w := by
  unfold maxLen at hs
  go_enter Tryz.func89, Tryz.ntmps89
  go_wp2
  go_loop [8] (fun i => ∃ k : Nat, k ≤ s.size ∧ i = .int .i64 k ∧ Hid (∀ j (hj : j < k) (hk : j < s.data.toList.length), quot s.data.toList[j] = true)) (fun i => s.size - (intOf i).toNat)
  case atStart => exact ⟨0, Nat.zero_le _, rfl, fun j hj _ => absurd hj (by omega)⟩
  case round =>
    obtain ⟨k, hk, rfl, hall⟩ := hrel
    by_cases hlt : k < s.size
    · cases hp : quot s[k]
      · go_wp2_with (go_at_call 53; refine (isQuotable_any s[k] _).mono ?_; rintro e w' ⟨rfl, rfl⟩)
        go_ret
        exact ⟨ret_int (by rw [runL_at quot s.data.toList k (by simpa using hlt) (fun j hj => hall.out j hj (by simp; omega)) hp]), rfl⟩
      · go_wp2_with (go_at_call 53; refine (isQuotable_any s[k] _).mono ?_; rintro e w' ⟨rfl, rfl⟩)
        go_round
        case rel =>
          refine ⟨k + 1, by omega, by go_num, fun j hj hk => ?_⟩
          by_cases e : j = k
          · subst e; exact hp
          · exact hall.out j (by omega) hk
        case measure => simp [intOf]; omega
    · go_wp2
      go_ret
      exact ⟨ret_int (by rw [runL_all quot _ (fun j hj => hall.out j (by simp at hj; omega) hj)]; simp), rfl⟩
end Go.Proofs.YtdiefbahmcihlaaGreatDoor

/-
  strings.HasPrefix and TrimPrefix at one byte; the three measures of package token; measure; body.
-/
namespace Go.Proofs.YtdiefbahmcihlaaGreatDoor
open Go.RowKit

theorem ext01 (s : ByteArray) (c : UInt8) : ((s.extract 0 1).toList == [c]) = startsB c s.data.toList := by
  rw [ByteArray.toList_eq, Lib.extract_data]
  cases h : s.data.toList with
  | nil => simp [startsB]
  | cons a l => simp [startsB]
theorem len_data (s : ByteArray) : s.data.toList.length = s.size := Array.length_toList
theorem starts_small (s : ByteArray) (c : UInt8) (h : ¬ 1 ≤ s.size) : startsB c s.data.toList = false := by
  have : s.data.toList = [] := List.eq_nil_of_length_eq_zero (by rw [len_data]; omega)
  simp [startsB, this]

set_option maxHeartbeats 400000 in
theorem hasPrefix_quote (s : ByteArray) (w : World) (hs : s.size ≤ maxLen) :
    Calls Tryz.prog 219 #[.string s, .string ⟨#[39]⟩] w fun e w' => e = .returned (.bool (startsB 39 s.data.toList)) ∧ w' = w := by
  unfold maxLen at hs
  by_cases h : 1 ≤ s.size
  · have h2 : (1 : Int) ≤ s.size := by omega
    go_enter Tryz.func219, Tryz.ntmps219
    go_wp2
    go_ret
    exact ⟨ret_bool (ext01 s 39), rfl⟩
  · have h2 : (s.size : Int) < 1 := by omega
    have h3 := starts_small s 39 h
    go_enter Tryz.func219, Tryz.ntmps219
    go_wp2
    all_goals (go_ret; exact ⟨rfl, rfl⟩)
set_option maxHeartbeats 400000 in
theorem trimPrefix_minus (s : ByteArray) (w : World) (hs : s.size ≤ maxLen) :
    Calls Tryz.prog 250 #[.string s, .string ⟨#[45]⟩] w fun e w' => ∃ r : ByteArray, e = .returned (.string r) ∧ r.size = (unsignL s.data.toList).length ∧ r.data.toList = unsignL s.data.toList ∧ w' = w := by
  unfold maxLen at hs
  by_cases h : 1 ≤ s.size
  · have h2 : (1 : Int) ≤ s.size := by omega
    have e := ext01 s 45
    cases hb : startsB 45 s.data.toList
    · rw [hb] at e
      go_enter Tryz.func250, Tryz.ntmps250
      go_wp2
      go_ret
      exact ⟨s, rfl, by simp [unsignL, hb], by simp [unsignL, hb], rfl⟩
    · rw [hb] at e
      go_enter Tryz.func250, Tryz.ntmps250
      go_wp2
      go_ret
      exact ⟨s.extract 1 s.size, rfl, by simp [unsignL, hb], by rw [Lib.extract_to_end]; simp [unsignL, hb], rfl⟩
  · have h2 : (s.size : Int) < 1 := by omega
    have h3 := starts_small s 45 h
    go_enter Tryz.func250, Tryz.ntmps250
    go_wp2
    all_goals (go_ret; exact ⟨s, rfl, by simp [unsignL, h3], by simp [unsignL, h3], rfl⟩)

/-- What the measures answer: a length, or 0 beside the error. -/
def lenV (o : Option Nat) : Value := .int .i64 ((o.getD 0 : Nat) : Int)
def errV (o : Option Nat) (ev : Value) : Value := match o with | some _ => .nilIface | none => ev

set_option maxHeartbeats 1000000 in
theorem measureWord_any (s : ByteArray) (w : World) (ev : Value) (hs : s.size ≤ maxLen) (hc : w.cell? ⟨5, 0, none⟩ = some ev) :
    Calls Tryz.prog 209 #[.string s] w fun e w' => e = .returned (.tuple #[lenV (wordL s.data.toList), errV (wordL s.data.toList) ev]) ∧ ∃ n, w' = w.drewN n := by
  have hl := runL_le letter s.data.toList
  have hl2 := len_data s
  have hs' := hs
  unfold maxLen at hs'
  by_cases h : 8 < runL letter s.data.toList
  · have e1 : wordL s.data.toList = none := by simp [wordL, h]
    rw [e1]
    have h2 : (8 : Int) < (runL letter s.data.toList : Int) := by omega
    go_enter Tryz.func209, Tryz.ntmps209
    go_wp2_with (go_at_call 89; refine (run_isLetter s _ hs).mono ?_; rintro e w' ⟨rfl, rfl⟩)
    go_quiet (fail)
    go_wp2
    go_ret2
    exact ⟨rfl, _, rfl⟩
  · have e1 : wordL s.data.toList = some (runL letter s.data.toList) := by simp [wordL, h]
    rw [e1]
    have h2 : (runL letter s.data.toList : Int) ≤ 8 := by omega
    go_enter Tryz.func209, Tryz.ntmps209
    go_wp2_with (go_at_call 89; refine (run_isLetter s _ hs).mono ?_; rintro e w' ⟨rfl, rfl⟩)
    go_ret2
    exact ⟨rfl, 0, rfl⟩

set_option maxHeartbeats 1000000 in
theorem measureNumber_any (s : ByteArray) (w : World) (ev : Value) (hs : s.size ≤ maxLen) (hc : w.cell? ⟨5, 0, none⟩ = some ev) :
    Calls Tryz.prog 207 #[.string s] w fun e w' => e = .returned (.tuple #[lenV (numL s.data.toList), errV (numL s.data.toList) ev]) ∧ ∃ n, w' = w.drewN n := by
  have hl := runL_le digit (unsignL s.data.toList)
  have hl2 := len_data s
  have hl3 := unsign_len s.data.toList
  have hs' := hs
  unfold maxLen at hs'
  by_cases h0 : runL digit (unsignL s.data.toList) = 0
  · have e1 : numL s.data.toList = none := by simp [numL, h0]
    rw [e1]
    have h00 : ((runL digit (unsignL s.data.toList) : Nat) : Int) = 0 := by omega
    clear h0
    go_enter Tryz.func207, Tryz.ntmps207
    go_wp2_with (first
      | (go_at_call 250; refine (trimPrefix_minus s _ hs).mono ?_; rintro e w' ⟨r, rfl, hr1, hr2, rfl⟩)
      | (go_at_call 89; refine (run_isDigit r _ (by omega)).mono ?_; rw [hr2]; rintro e w' ⟨rfl, rfl⟩))
    go_quiet (fail)
    go_wp2
    go_ret2
    exact ⟨rfl, _, rfl⟩
  by_cases h : 9 < runL digit (unsignL s.data.toList)
  · have e1 : numL s.data.toList = none := by simp [numL, h]
    rw [e1]
    have h2 : (9 : Int) < (runL digit (unsignL s.data.toList) : Int) := by omega
    have h3 : ((runL digit (unsignL s.data.toList) : Int) == 0) = false := by simpa using h0
    clear h0
    go_enter Tryz.func207, Tryz.ntmps207
    go_wp2_with (first
      | (go_at_call 250; refine (trimPrefix_minus s _ hs).mono ?_; rintro e w' ⟨r, rfl, hr1, hr2, rfl⟩)
      | (go_at_call 89; refine (run_isDigit r _ (by omega)).mono ?_; rw [hr2]; rintro e w' ⟨rfl, rfl⟩))
    go_quiet (fail)
    go_wp2
    go_ret2
    exact ⟨rfl, _, rfl⟩
  · have e1 : numL s.data.toList = some (s.data.toList.length - (unsignL s.data.toList).length + runL digit (unsignL s.data.toList)) := by simp only [numL, h0, h, or_self, if_false]
    rw [e1]
    have h2 : (runL digit (unsignL s.data.toList) : Int) ≤ 9 := by omega
    have h3 : ((runL digit (unsignL s.data.toList) : Int) == 0) = false := by simpa using h0
    clear h0 h
    go_enter Tryz.func207, Tryz.ntmps207
    go_wp2_with (first
      | (go_at_call 250; refine (trimPrefix_minus s _ hs).mono ?_; rintro e w' ⟨r, rfl, hr1, hr2, rfl⟩)
      | (go_at_call 89; refine (run_isDigit r _ (by omega)).mono ?_; rw [hr2]; rintro e w' ⟨rfl, rfl⟩))
    go_ret2
    refine ⟨?_, 0, rfl⟩
    simp only [lenV, errV, Option.getD_some]
    rw [show ((s.data.toList.length - (unsignL s.data.toList).length + runL digit (unsignL s.data.toList) : Nat) : Int) = (s.size : Int) - (unsignL s.data.toList).length + runL digit (unsignL s.data.toList) by omega]
    rfl

set_option maxHeartbeats 1000000 in
theorem measureText_any (s : ByteArray) (w : World) (ev : Value) (hs : s.size ≤ maxLen) (h1 : 1 ≤ s.size) (hc : w.cell? ⟨5, 0, none⟩ = some ev) :
    Calls Tryz.prog 205 #[.string s] w fun e w' => e = .returned (.tuple #[lenV (textL s.data.toList), errV (textL s.data.toList) ev]) ∧ ∃ n, w' = w.drewN n := by
  have hl := runL_le quot (s.data.toList.drop 1)
  have hl2 := len_data s
  have hs' := hs
  unfold maxLen at hs'
  have er : (s.extract 1 s.size).data.toList = s.data.toList.drop 1 := Lib.extract_to_end s 1
  have ez : (s.extract 1 s.size).size ≤ maxLen := by simp; omega
  rw [List.length_drop] at hl
  have cr := fun w => run_isQuotable (s.extract 1 s.size) w ez
  rw [er] at cr
  generalize hm : runL quot (s.data.toList.drop 1) = m at *
  have cp := fun w => hasPrefix_quote (s.extract (1 + m) s.size) w (by simp [maxLen]; omega)
  have ep : (s.extract (1 + m) s.size).data.toList = (s.data.toList.drop 1).drop m := by rw [Lib.extract_to_end, List.drop_drop]
  rw [ep] at cp
  by_cases h : 20 < m
  · have e1 : textL s.data.toList = none := by simp only [textL, hm, h, true_or, if_true]
    rw [e1]
    clear cp ep hm er
    go_enter Tryz.func205, Tryz.ntmps205
    go_wp2_with (go_at_call 89; refine (cr _).mono ?_; rintro e w' ⟨rfl, rfl⟩)
    go_quiet (fail)
    go_wp2
    go_ret2
    exact ⟨rfl, _, rfl⟩
  · cases hq : startsB 39 ((s.data.toList.drop 1).drop m)
    · have e1 : textL s.data.toList = none := by simp only [textL, hm, hq, or_true, if_true]
      rw [e1]
      rw [hq] at cp
      clear hq ep hm er
      go_enter Tryz.func205, Tryz.ntmps205
      go_wp2_with (first | (go_at_call 89; refine (cr _).mono ?_; rintro e w' ⟨rfl, rfl⟩) | (go_at_call 219; refine (cp _).mono ?_; rintro e w' ⟨rfl, rfl⟩))
      go_quiet (fail)
      go_wp2
      go_ret2
      exact ⟨rfl, _, rfl⟩
    · have e1 : textL s.data.toList = some (m + 2) := by simp only [textL, hm, hq, h, Bool.true_eq_false, or_self, if_false]
      rw [e1]
      rw [hq] at cp
      clear hq ep hm er
      go_enter Tryz.func205, Tryz.ntmps205
      go_wp2_with (first | (go_at_call 89; refine (cr _).mono ?_; rintro e w' ⟨rfl, rfl⟩) | (go_at_call 219; refine (cp _).mono ?_; rintro e w' ⟨rfl, rfl⟩))
      go_ret2
      exact ⟨rfl, 0, rfl⟩
end Go.Proofs.YtdiefbahmcihlaaGreatDoor

/-
  measure and body of package token, for every text.
-/
namespace Go.Proofs.YtdiefbahmcihlaaGreatDoor
open Go.RowKit

def kcode : K → Int
  | .eof => 0 | .opn => 1 | .cls => 2 | .num => 3 | .txt => 4 | .word => 5 | .bad => 6

/-- What measure answers: of a wrong token the error alone counts. -/
def measured (m : K × Nat) (ev : Value) (e : Ending) : Prop :=
  match m.1 with
  | .bad => ∃ a b : Int, e = .returned (.tuple #[.int .i64 a, .int .i64 b, ev])
  | k => e = .returned (.tuple #[.int .i64 (kcode k), .int .i64 ((m.2 : Nat) : Int), .nilIface])

theorem measured_kind (k : K) (hk : k ≠ .bad) (o : Option Nat) (ev : Value) : measured (kindOf k o) ev (.returned (.tuple #[.int .i64 (kcode k), lenV o, errV o ev])) := by
  cases o with
  | none => exact ⟨_, _, rfl⟩
  | some n => cases k <;> first | rfl | exact absurd rfl hk

set_option maxHeartbeats 1000000 in
theorem measure_any (s : ByteArray) (w : World) (ev : Value) (hs : s.size ≤ maxLen) (hc : w.cell? ⟨5, 0, none⟩ = some ev) :
    Calls Tryz.prog 164 #[.string s] w fun e w' => measured (measureL s.data.toList) ev e ∧ ∃ n, w' = w.drewN n := by
  have hl2 := len_data s
  have hs' := hs
  unfold maxLen at hs'
  by_cases h0 : s.size = 0
  · have e0 : s.data.toList = [] := List.eq_nil_of_length_eq_zero (by omega)
    have e1 : s.toList.isEmpty = true := by rw [ByteArray.toList_eq, e0]; rfl
    rw [e0]
    clear e0
    go_enter Tryz.func164, Tryz.ntmps164
    go_wp2
    go_ret3
    exact ⟨rfl, 0, rfl⟩
  have h1 : 1 ≤ s.size := by omega
  obtain ⟨c, r, hcr⟩ : ∃ c r, s.data.toList = c :: r := by
    cases h : s.data.toList with
    | nil => rw [h] at hl2; simp at hl2; omega
    | cons c r => exact ⟨c, r, rfl⟩
  have hs0 : s[0] = c := by
    have := data_at s 0 (by omega)
    simpa [hcr] using this.symm
  have e1 : s.toList.isEmpty = false := by rw [ByteArray.toList_eq, hcr]; rfl
  have cw := fun w hc => measureWord_any s w ev hs hc
  have cn := fun w hc => measureNumber_any s w ev hs hc
  have ct := fun w hc => measureText_any s w ev hs h1 hc
  rw [hcr] at cw cn ct ⊢
  clear hcr hl2 h0
  have hi : (0 : Int) < s.size := by omega
  have bn : ∀ k : UInt8, ¬ c = k → ((c.toNat : Int) == (k.toNat : Int)) = false := fun k hk => by
    have : c.toNat ≠ k.toNat := fun e => hk (UInt8.toNat_inj.1 e)
    simp; omega
  by_cases a1 : c = 40
  · subst a1
    go_enter Tryz.func164, Tryz.ntmps164
    go_wp2
    go_ret3
    exact ⟨rfl, 0, rfl⟩
  by_cases a2 : c = 41
  · subst a2
    go_enter Tryz.func164, Tryz.ntmps164
    go_wp2
    go_ret3
    exact ⟨rfl, 0, rfl⟩
  by_cases a3 : c = 39
  · subst a3
    go_enter Tryz.func164, Tryz.ntmps164
    go_wp2_with (go_at_call 205; refine (ct _ hc).mono ?_; rintro e w' ⟨rfl, n, rfl⟩)
    go_ret3
    exact ⟨measured_kind .txt (by decide) _ ev, n, rfl⟩
  have b1 : ((c.toNat : Int) == 40) = false := bn 40 a1
  have b2 : ((c.toNat : Int) == 41) = false := bn 41 a2
  have b3 : ((c.toNat : Int) == 39) = false := bn 39 a3
  have f1 : (c == 40) = false := by simpa using a1
  have f2 : (c == 41) = false := by simpa using a2
  have f3 : (c == 39) = false := by simpa using a3
  clear a1 a2 a3
  by_cases a4 : c = 45
  · subst a4
    clear b1 b2 b3 f1 f2 f3 bn
    go_enter Tryz.func164, Tryz.ntmps164
    go_wp2_with (go_at_call 207; refine (cn _ hc).mono ?_; rintro e w' ⟨rfl, n, rfl⟩)
    go_ret3
    exact ⟨measured_kind .num (by decide) _ ev, n, rfl⟩
  have b4 : ((c.toNat : Int) == 45) = false := bn 45 a4
  have f4 : (c == 45) = false := by simpa using a4
  clear a4 bn
  cases a5 : digit c
  · cases a6 : letter c
    · have em : Hid (measureL (c :: r) = (.bad, 0)) := show measureL (c :: r) = (.bad, 0) by simp [measureL, f1, f2, f3, f4, a5, a6]
      clear f1 f2 f3 f4
      go_enter Tryz.func164, Tryz.ntmps164
      go_wp2_with (first | (go_at_call 206; refine (isDigit_any c _).mono ?_; rintro e w' ⟨rfl, rfl⟩) | (go_at_call 208; refine (isLetter_any c _).mono ?_; rintro e w' ⟨rfl, rfl⟩))
      go_quiet (fail)
      go_wp2
      go_ret3
      exact ⟨by rw [em.out]; exact ⟨_, _, rfl⟩, _, rfl⟩
    · have em : Hid (measureL (c :: r) = kindOf .word (wordL (c :: r))) := show measureL (c :: r) = _ by simp [measureL, f1, f2, f3, f4, a5, a6]
      clear f1 f2 f3 f4
      go_enter Tryz.func164, Tryz.ntmps164
      go_wp2_with (first | (go_at_call 206; refine (isDigit_any c _).mono ?_; rintro e w' ⟨rfl, rfl⟩) | (go_at_call 208; refine (isLetter_any c _).mono ?_; rintro e w' ⟨rfl, rfl⟩) | (go_at_call 209; refine (cw _ hc).mono ?_; rintro e w' ⟨rfl, n, rfl⟩))
      go_ret3
      exact ⟨by rw [em.out]; exact measured_kind .word (by decide) _ ev, n, rfl⟩
  · have em : Hid (measureL (c :: r) = kindOf .num (numL (c :: r))) := show measureL (c :: r) = _ by simp [measureL, f1, f2, f3, f4, a5]
    clear f1 f2 f3 f4
    go_enter Tryz.func164, Tryz.ntmps164
    go_wp2_with (first | (go_at_call 206; refine (isDigit_any c _).mono ?_; rintro e w' ⟨rfl, rfl⟩) | (go_at_call 207; refine (cn _ hc).mono ?_; rintro e w' ⟨rfl, n, rfl⟩))
    go_ret3
    exact ⟨by rw [em.out]; exact measured_kind .num (by decide) _ ev, n, rfl⟩

/-- body: a text without its quotes, else all. -/
def bodyL (k : K) (l : List UInt8) : List UInt8 := match k with
  | .txt => (l.drop 1).take (l.length - 2)
  | _ => l
set_option maxHeartbeats 1000000 in
theorem body_txt (s : ByteArray) (w : World) (hs : s.size ≤ maxLen) (h2 : 2 ≤ s.size) :
    Calls Tryz.prog 165 #[.int .i64 4, .string s] w fun e w' => (∃ b : ByteArray, e = .returned (.string b) ∧ b.data.toList = bodyL .txt s.data.toList ∧ b.size ≤ s.size) ∧ w' = w := by
  unfold maxLen at hs
  have e1 : ((s.size : Int) - 1) = ((s.size - 1 : Nat) : Int) := by omega
  go_enter Tryz.func165, Tryz.ntmps165
  go_wp2
  go_ret
  refine ⟨⟨s.extract 1 (s.size - 1), rfl, ?_, ?_⟩, rfl⟩
  · rw [Lib.extract_data, bodyL, len_data]
    rfl
  · simp
    omega
set_option maxHeartbeats 1000000 in
theorem body_other (k : K) (hk : k ≠ .txt) (s : ByteArray) (w : World) :
    Calls Tryz.prog 165 #[.int .i64 (kcode k), .string s] w fun e w' => (∃ b : ByteArray, e = .returned (.string b) ∧ b.data.toList = bodyL k s.data.toList ∧ b.size ≤ s.size) ∧ w' = w := by
  cases k
  all_goals first | exact absurd rfl hk | skip
  all_goals
    go_enter Tryz.func165, Tryz.ntmps165
    go_wp2
    go_ret
    exact ⟨⟨s, rfl, rfl, Nat.le_refl _⟩, rfl⟩
end Go.Proofs.YtdiefbahmcihlaaGreatDoor
