/-
  The law's checks: Check and the reference answer the same, at every text.
-/
import Derived.Test.YtdiefbahmcihlaaGreatDoorLawE
import Derived.Test.YtdiefbahmcihlaaGreatDoorRefP
namespace Go.Proofs.YtdiefbahmcihlaaGreatDoor
open Go.RowKit
attribute [local go_sem ↓] Go.wp_at_zero Go.wp_at_succ

theorem answer_code {n : Nat} {ts : List Tok} {c p : Nat} (h : answer n ts = some (c, p)) : 1 ≤ c ∧ c ≤ 7 := by
  unfold answer at h
  split at h
  · cases h; decide
  · unfold chk at h
    split at h
    · cases h
      unfold codeT
      split <;> decide
    · split at h
      · cases h
        unfold codeN
        split
        · decide
        · split <;> decide
      · split at h
        · cases h
        · cases h; decide
theorem code_any (n : Nat) (ts : List Tok) (E : Nat → Addr) (w : World) (S : Sents w E) :
    Calls Tryz.prog 64 #[ansV (answer n ts) E] w fun e w' => e = .returned (.tuple #[.int .i64 (((ansP (answer n ts)).1 : Nat) : Int), .int .i64 (((ansP (answer n ts)).2 : Nat) : Int)]) ∧ Below w.heap.size w w' := by
  cases h : answer n ts with
  | none => exact code_nil w
  | some x =>
    obtain ⟨c, p⟩ := x
    obtain ⟨h1, h2⟩ := answer_code h
    simp only [ansV, ansP]
    match c, h1, h2 with
    | 1, _, _ => exact code_1 p E w S
    | 2, _, _ => exact code_2 p E w S
    | 3, _, _ => exact code_3 p E w S
    | 4, _, _ => exact code_4 p E w S
    | 5, _, _ => exact code_5 p E w S
    | 6, _, _ => exact code_6 p E w S
    | 7, _, _ => exact code_7 p E w S
set_option maxHeartbeats 1000000 in
theorem is_any (v : Value) (c p : Nat) (w : World) (hc : Calls Tryz.prog 64 #[v] w fun e w' => e = .returned (.tuple #[.int .i64 ((c : Nat) : Int), .int .i64 ((p : Nat) : Int)]) ∧ Below w.heap.size w w') :
    Calls Tryz.prog 33 #[v, .int .i64 ((c : Nat) : Int), .int .i64 ((p : Nat) : Int)] w fun e w' => e = .returned (.bool true) ∧ Below w.heap.size w w' := by
  go_enter Tryz.func33, Tryz.ntmps33
  go_wp2_with (go_at_call 64; refine hc.mono ?_; rintro e w2 ⟨rfl, hb⟩)
  go_ret
  exact ⟨rfl, hb⟩
set_option maxHeartbeats 1000000 in
theorem checks_any (s : ByteArray) (w : World) (E : Nat → Addr) (S : Sents w E) (h15 : 15 ≤ w.heap.size) (hs : s.size ≤ maxLen) :
    Calls Tryz.prog 12 #[.string s] w fun e w' => e = .returned (.bool true) ∧ Below w.heap.size w w' := by
  obtain ⟨ts, hts⟩ := isToks_some s.data.toList _ 0 (Nat.zero_le _) (Nat.le_refl _)
  have c1 := check_text s w E S.er h15 hs (fun _ => hts)
  have c2 := fun X => rread_any s X hs (fun _ => hts)
  have c3 := fun X (hX : Below w.heap.size w X) => is_any _ _ _ X (code_any s.size ts E X (S.below hX))
  unfold rdPost at c2
  generalize ansV (answer s.size ts) E = V at *
  generalize (ansP (answer s.size ts)).1 = ac at *
  generalize (ansP (answer s.size ts)).2 = ap at *
  clear hts
  go_enter Tryz.func12, Tryz.ntmps12
  go_wp2_with (first
    | (go_at_call 31; refine c1.mono ?_; rintro e w1 ⟨rfl, hb1⟩)
    | (go_at_call 32; refine (c2 _).mono ?_; rintro e w2 ⟨⟨v, rfl⟩, hb2⟩; have hb12 := hb1.trans (hb2.mono hb1.size))
    | (go_at_call 33; refine (c3 _ hb12).mono ?_; rintro e w3 ⟨rfl, hb3⟩))
  go_ret
  exact ⟨rfl, hb12.trans (hb3.mono hb12.size)⟩
end Go.Proofs.YtdiefbahmcihlaaGreatDoor

/-
  The law Checks: true, whatever the texts.
-/
namespace Go.Proofs.YtdiefbahmcihlaaGreatDoor
open Go.RowKit
attribute [local go_sem ↓] Go.wp_at_zero Go.wp_at_succ

set_option maxRecDepth 20000 in
set_option maxHeartbeats 4000000 in
theorem Checks_some (b off cap : Nat) (bs : List ByteArray) (w : World) (E : Nat → Addr) (S : Sents w E) (h15 : 15 ≤ w.heap.size) (hn : bs.length ≤ maxLen) (_hcap : bs.length ≤ cap) (_hcm : cap ≤ maxLen) (hcell : ∀ i (hi : i < bs.length), w.cell? ⟨b, off + i, none⟩ = some (.string bs[i])) (hsz : ∀ i (hi : i < bs.length), bs[i].size ≤ maxLen) :
    Calls Tryz.prog 3 #[.slice (some ⟨b, off, none⟩) bs.length cap] w fun e w' => e = .returned (.bool true) ∧ Below w.heap.size w w' := by
  have CK : ∀ (s : ByteArray) (X : World), Below w.heap.size w X → s.size ≤ maxLen → Calls Tryz.prog 12 #[.string s] X fun e w' => e = .returned (.bool true) ∧ Below X.heap.size X w' := fun s X hX hs => checks_any s X E (S.below hX) (Nat.le_trans h15 hX.size) hs
  unfold maxLen at hn _hcm
  go_enter Tryz.func3, Tryz.ntmps3
  go_wp2_with (go_at_call 12; refine (CK _ w (Below.refl _ _) ?_).mono ?_; (exact of_decide_eq_true (by kernel_rfl)); rintro e w1 ⟨rfl, hb1⟩)
  go_loopg [3, 4] bs.length (fun gh ok iv wr => ∃ q : Nat, gh = bs.length - q ∧ ok = .bool true ∧ iv = .int .i64 ((q : Nat) : Int) ∧ q ≤ bs.length ∧ Below w.heap.size w wr)
  case atStart => exact ⟨0, by omega, rfl, rfl, by omega, hb1⟩
  case round =>
    obtain ⟨q, rfl, rfl, rfl, hq, hb⟩ := hrel
    by_cases hlt : q < bs.length
    · have c0 := Below.cellv hb (hcell q hlt)
      have hs := hsz q hlt
      generalize bs[q] = sq at *
      go_wp2_with (go_at_call 12; refine (CK sq _ hb hs).mono ?_; rintro e w2 ⟨rfl, hb2⟩)
      go_roundg (bs.length - (q + 1))
      case measure => omega
      case rel => exact ⟨q + 1, rfl, rfl, by go_num, by omega, hb.trans (hb2.mono hb.size)⟩
    · go_wp2
      go_ret
      exact ⟨rfl, hb⟩
set_option maxRecDepth 20000 in
set_option maxHeartbeats 4000000 in
theorem Checks_none (a : Option Addr) (cap : Nat) (w : World) (E : Nat → Addr) (S : Sents w E) (h15 : 15 ≤ w.heap.size) :
    Calls Tryz.prog 3 #[.slice a 0 cap] w fun e w' => e = .returned (.bool true) ∧ Below w.heap.size w w' := by
  have CK : ∀ (s : ByteArray) (X : World), Below w.heap.size w X → s.size ≤ maxLen → Calls Tryz.prog 12 #[.string s] X fun e w' => e = .returned (.bool true) ∧ Below X.heap.size X w' := fun s X hX hs => checks_any s X E (S.below hX) (Nat.le_trans h15 hX.size) hs
  go_enter Tryz.func3, Tryz.ntmps3
  go_wp2_with (go_at_call 12; refine (CK _ w (Below.refl _ _) ?_).mono ?_; (exact of_decide_eq_true (by kernel_rfl)); rintro e w1 ⟨rfl, hb1⟩)
  go_loop [3, 4] (fun ok iv => ok = .bool true ∧ iv = .int .i64 0) (fun _ _ => 0)
  case atStart => exact ⟨rfl, rfl⟩
  case round =>
    obtain ⟨rfl, rfl⟩ := hrel
    go_wp2
    go_ret
    exact ⟨rfl, hb1⟩
end Go.Proofs.YtdiefbahmcihlaaGreatDoor
