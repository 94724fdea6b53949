/-
  The small functions of the parser of package program: what each answers.
-/
import Derived.Test.YtdiefbahmcihlaaGreatDoorNext
import Derived.Test.YtdiefbahmcihlaaGreatDoorPure
namespace Go.Proofs.YtdiefbahmcihlaaGreatDoor
open Go.RowKit
attribute [local go_sem ↓] Go.wp_at_zero Go.wp_at_succ

/-- shapeOf's answer. -/
def shapeV : Option (Bool × Int) → Value
  | some (b, n) => .tuple #[.agg #[.bool b, .int .i64 n], .bool true]
  | none => .tuple #[.agg #[.bool false, .int .i64 0], .bool false]

set_option maxHeartbeats 2000000 in
theorem shapeOf_any (s : ByteArray) (w : World) :
    Calls Tryz.prog 275 #[.string s] w fun e w' => e = .returned (shapeV (shapeL s.toList)) ∧ Below w.heap.size w w' := by
  rcases shape_cases s.toList with h | h | h | h | h | h | h | h | h | h | h | h | h | h | ⟨h, g0, g1, g2, g3, g4, g5, g6, g7, g8, g9, g10, g11, g12, g13⟩
  · go_enter Tryz.func275, Tryz.ntmps275
    go_wp2
    exact bodyPost_ret (v := .tuple #[.agg #[.bool false, .int .i64 (-1)], .bool true]) (by simp [results, Tryz.results275, go_sem]) rfl ⟨by first | rfl | (rw [h]; rfl), (Below.refl _ _).alloc (Nat.le_refl _) _⟩
  · go_enter Tryz.func275, Tryz.ntmps275
    go_wp2
    exact bodyPost_ret (v := .tuple #[.agg #[.bool true, .int .i64 (-1)], .bool true]) (by simp [results, Tryz.results275, go_sem]) rfl ⟨by first | rfl | (rw [h]; rfl), (Below.refl _ _).alloc (Nat.le_refl _) _⟩
  · go_enter Tryz.func275, Tryz.ntmps275
    go_wp2
    exact bodyPost_ret (v := .tuple #[.agg #[.bool true, .int .i64 (1)], .bool true]) (by simp [results, Tryz.results275, go_sem]) rfl ⟨by first | rfl | (rw [h]; rfl), (Below.refl _ _).alloc (Nat.le_refl _) _⟩
  · go_enter Tryz.func275, Tryz.ntmps275
    go_wp2
    exact bodyPost_ret (v := .tuple #[.agg #[.bool true, .int .i64 (2)], .bool true]) (by simp [results, Tryz.results275, go_sem]) rfl ⟨by first | rfl | (rw [h]; rfl), (Below.refl _ _).alloc (Nat.le_refl _) _⟩
  · go_enter Tryz.func275, Tryz.ntmps275
    go_wp2
    exact bodyPost_ret (v := .tuple #[.agg #[.bool false, .int .i64 (3)], .bool true]) (by simp [results, Tryz.results275, go_sem]) rfl ⟨by first | rfl | (rw [h]; rfl), (Below.refl _ _).alloc (Nat.le_refl _) _⟩
  · go_enter Tryz.func275, Tryz.ntmps275
    go_wp2
    exact bodyPost_ret (v := .tuple #[.agg #[.bool false, .int .i64 (3)], .bool true]) (by simp [results, Tryz.results275, go_sem]) rfl ⟨by first | rfl | (rw [h]; rfl), (Below.refl _ _).alloc (Nat.le_refl _) _⟩
  · go_enter Tryz.func275, Tryz.ntmps275
    go_wp2
    exact bodyPost_ret (v := .tuple #[.agg #[.bool false, .int .i64 (1)], .bool true]) (by simp [results, Tryz.results275, go_sem]) rfl ⟨by first | rfl | (rw [h]; rfl), (Below.refl _ _).alloc (Nat.le_refl _) _⟩
  · go_enter Tryz.func275, Tryz.ntmps275
    go_wp2
    exact bodyPost_ret (v := .tuple #[.agg #[.bool false, .int .i64 (2)], .bool true]) (by simp [results, Tryz.results275, go_sem]) rfl ⟨by first | rfl | (rw [h]; rfl), (Below.refl _ _).alloc (Nat.le_refl _) _⟩
  · go_enter Tryz.func275, Tryz.ntmps275
    go_wp2
    exact bodyPost_ret (v := .tuple #[.agg #[.bool false, .int .i64 (2)], .bool true]) (by simp [results, Tryz.results275, go_sem]) rfl ⟨by first | rfl | (rw [h]; rfl), (Below.refl _ _).alloc (Nat.le_refl _) _⟩
  · go_enter Tryz.func275, Tryz.ntmps275
    go_wp2
    exact bodyPost_ret (v := .tuple #[.agg #[.bool false, .int .i64 (2)], .bool true]) (by simp [results, Tryz.results275, go_sem]) rfl ⟨by first | rfl | (rw [h]; rfl), (Below.refl _ _).alloc (Nat.le_refl _) _⟩
  · go_enter Tryz.func275, Tryz.ntmps275
    go_wp2
    exact bodyPost_ret (v := .tuple #[.agg #[.bool false, .int .i64 (2)], .bool true]) (by simp [results, Tryz.results275, go_sem]) rfl ⟨by first | rfl | (rw [h]; rfl), (Below.refl _ _).alloc (Nat.le_refl _) _⟩
  · go_enter Tryz.func275, Tryz.ntmps275
    go_wp2
    exact bodyPost_ret (v := .tuple #[.agg #[.bool false, .int .i64 (2)], .bool true]) (by simp [results, Tryz.results275, go_sem]) rfl ⟨by first | rfl | (rw [h]; rfl), (Below.refl _ _).alloc (Nat.le_refl _) _⟩
  · go_enter Tryz.func275, Tryz.ntmps275
    go_wp2
    exact bodyPost_ret (v := .tuple #[.agg #[.bool false, .int .i64 (2)], .bool true]) (by simp [results, Tryz.results275, go_sem]) rfl ⟨by first | rfl | (rw [h]; rfl), (Below.refl _ _).alloc (Nat.le_refl _) _⟩
  · go_enter Tryz.func275, Tryz.ntmps275
    go_wp2
    exact bodyPost_ret (v := .tuple #[.agg #[.bool false, .int .i64 (2)], .bool true]) (by simp [results, Tryz.results275, go_sem]) rfl ⟨by first | rfl | (rw [h]; rfl), (Below.refl _ _).alloc (Nat.le_refl _) _⟩
  · go_enter Tryz.func275, Tryz.ntmps275
    go_wp2
    exact bodyPost_ret (v := .tuple #[.agg #[.bool false, .int .i64 0], .bool false]) (by simp [results, Tryz.results275, go_sem]) rfl ⟨by first | rfl | (rw [h]; rfl), (Below.refl _ _).alloc (Nat.le_refl _) _⟩
end Go.Proofs.YtdiefbahmcihlaaGreatDoor

/-
  isReserved, misplaced, nameOf, enter and leave of package program.
-/
namespace Go.Proofs.YtdiefbahmcihlaaGreatDoor
open Go.RowKit
attribute [local go_sem ↓] Go.wp_at_zero Go.wp_at_succ

/-- What is wrong, and where, as a value. -/
abbrev wrongV (at_ : Nat) (a : Addr) : Value := .iface 163 (.agg #[.int .i64 ((at_ : Nat) : Int), errVal a])
/-- A token of the implementation. -/
abbrev tokV (k : Int) (at_ : Nat) (bd : ByteArray) : Value := .agg #[.int .i64 k, .int .i64 ((at_ : Nat) : Int), .string bd]
/-- A name of the implementation. -/
abbrev nameV (bd : ByteArray) (at_ : Nat) : Value := .agg #[.string bd, .int .i64 ((at_ : Nat) : Int)]

theorem shapeOf_data (s : ByteArray) (w : World) :
    Calls Tryz.prog 275 #[.string s] w fun e w' => e = .returned (shapeV (shapeL s.data.toList)) ∧ Below w.heap.size w w' := by
  rw [← ByteArray.toList_eq]
  exact shapeOf_any s w

set_option maxHeartbeats 1000000 in
theorem isReserved_any (s : ByteArray) (w : World) :
    Calls Tryz.prog 251 #[.string s] w fun e w' => e = .returned (.bool (reservedL s.data.toList)) ∧ Below w.heap.size w w' := by
  have cs := shapeOf_data s
  have hr : Hid (reservedL s.data.toList = ((shapeL s.data.toList).isSome || s.data.toList == [102, 117, 110])) := show reservedL _ = _ from rfl
  rw [← ByteArray.toList_eq] at hr
  cases h : shapeL s.data.toList with
  | some p =>
    obtain ⟨bb, n⟩ := p
    rw [h] at cs
    have hr2 : Hid (reservedL s.data.toList = true) := by
      have := hr.out
      rw [ByteArray.toList_eq, h] at this
      exact this
    clear hr h
    go_enter Tryz.func251, Tryz.ntmps251
    go_wp2_with (go_at_call 275; refine (cs _).mono ?_; rintro e w' ⟨rfl, hb⟩; simp only [shapeV])
    go_ret
    exact ⟨by rw [hr2.out]; rfl, hb.alloc hb.size _⟩
  | none =>
    rw [h] at cs
    have hr2 : Hid (reservedL s.data.toList = (s.toList == [102, 117, 110])) := by
      have := hr.out
      rw [ByteArray.toList_eq, h] at this
      rw [ByteArray.toList_eq]
      exact this
    clear hr h
    go_enter Tryz.func251, Tryz.ntmps251
    go_wp2_with (go_at_call 275; refine (cs _).mono ?_; rintro e w' ⟨rfl, hb⟩; simp only [shapeV])
    go_ret
    exact ⟨by rw [hr2.out]; rfl, hb.alloc hb.size _⟩

set_option maxHeartbeats 1000000 in
theorem misplaced_any (k : Int) (at_ : Nat) (bd : ByteArray) (w : World) (aT : Addr) (hc : w.cell? ⟨5, 0, none⟩ = some (errVal aT)) :
    Calls Tryz.prog 210 #[tokV k at_ bd] w fun e w' => e = .returned (wrongV at_ aT) ∧ Below w.heap.size w w' := by
  have hlt := cell_lt hc
  have hn := World.new_ne w _ hc
  go_enter Tryz.func210, Tryz.ntmps210
  go_wp2
  go_ret
  exact ⟨rfl, (Below.refl _ _).alloc (Nat.le_refl _) _⟩

/-- nameOf: a name, or what is wrong. -/
def isName (k : Int) (l : List UInt8) : Bool := k == 5 && !reservedL l

theorem below2i {w w' : World} {o o' : Obj} (hb : Below ((w.alloc o).alloc o').heap.size ((w.alloc o).alloc o') w') : Below w.heap.size w w' :=
  (((Below.refl _ _).alloc (Nat.le_refl _) o).alloc (by simp) o').trans (hb.mono (by simp; omega))
set_option maxHeartbeats 1000000 in
theorem nameOf_ok (k : Int) (at_ : Nat) (bd : ByteArray) (w : World) (hk : isName k bd.data.toList = true) :
    Calls Tryz.prog 211 #[tokV k at_ bd] w fun e w' => e = .returned (.tuple #[nameV bd at_, .nilIface]) ∧ Below w.heap.size w w' := by
  have cr := isReserved_any bd
  simp only [isName, Bool.and_eq_true, beq_iff_eq, Bool.not_eq_true'] at hk
  obtain ⟨rfl, hr⟩ := hk
  rw [hr] at cr
  clear hr
  go_enter Tryz.func211, Tryz.ntmps211
  go_wp2_with (go_at_call 251; refine (cr _).mono ?_; rintro e w' ⟨rfl, hb⟩; obtain ⟨hbc, hbf, hbz⟩ := bcell hb; simp at hbz)
  exact bodyPost_ret (v := .tuple #[nameV bd at_, .nilIface]) (by simp [results, Tryz.results211, go_sem, hbc]) rfl ⟨rfl, ((below2i hb).setCell (p := ⟨w.heap.size + 1, 0, none⟩) (by simp) _).setCell (p := ⟨w.heap.size + 1, 1, none⟩) (by simp) _⟩
set_option maxHeartbeats 1000000 in
theorem nameOf_no (k : Int) (at_ : Nat) (bd : ByteArray) (w : World) (aT : Addr) (hc : w.cell? ⟨5, 0, none⟩ = some (errVal aT)) (hk : isName k bd.data.toList = false) :
    Calls Tryz.prog 211 #[tokV k at_ bd] w fun e w' => e = .returned (.tuple #[nameV ⟨#[]⟩ 0, wrongV at_ aT]) ∧ Below w.heap.size w w' := by
  have cr := isReserved_any bd
  by_cases h5 : k = 5
  · subst h5
    have hr : reservedL bd.data.toList = true := by simpa [isName] using hk
    rw [hr] at cr
    clear hr hk
    go_enter Tryz.func211, Tryz.ntmps211
    go_wp2_with (go_at_call 251; refine (cr _).mono ?_; rintro e w' ⟨rfl, hb⟩; obtain ⟨hbc, hbf, hbz⟩ := bcell hb; simp at hbz; have hc' := Below.cellv hb (alloc_cell (alloc_cell hc)))
    refine (misplaced_any 5 at_ bd _ aT hc').mono ?_
    rintro e w2 ⟨rfl, hb2⟩
    obtain ⟨hbc2, hbf2, hbz2⟩ := bcell hb2
    have hz1 : w.heap.size + 1 < w'.heap.size := by omega
    go_wp2
    exact bodyPost_ret (v := .tuple #[nameV ⟨#[]⟩ 0, wrongV at_ aT]) (by simp [results, Tryz.results211, go_sem, hbc, hbc2, hz1]) rfl ⟨rfl, (((below2i hb).trans (hb2.mono (by omega))).setCell (p := ⟨w.heap.size + 1, 0, none⟩) (by simp) _).setCell (p := ⟨w.heap.size + 1, 1, none⟩) (by simp) _⟩
  · clear hk
    go_enter Tryz.func211, Tryz.ntmps211
    go_wp2_with (go_at_call 210; refine (misplaced_any k at_ bd _ aT ?_).mono ?_; (exact alloc_cell (alloc_cell hc)); rintro e w' ⟨rfl, hb⟩; obtain ⟨hbc, hbf, hbz⟩ := bcell hb; simp at hbz)
    exact bodyPost_ret (v := .tuple #[nameV ⟨#[]⟩ 0, wrongV at_ aT]) (by simp [results, Tryz.results211, go_sem, hbc]) rfl ⟨rfl, ((below2i hb).setCell (p := ⟨w.heap.size + 1, 0, none⟩) (by simp) _).setCell (p := ⟨w.heap.size + 1, 1, none⟩) (by simp) _⟩
end Go.Proofs.YtdiefbahmcihlaaGreatDoor

/-
  The parser in memory; Next as the parser meets it; enter, leave, fun, name.
-/
namespace Go.Proofs.YtdiefbahmcihlaaGreatDoor
open Go.RowKit
attribute [local go_sem ↓] Go.wp_at_zero Go.wp_at_succ

/-- The parser (block pb), its reader (block rb) at place p with d brackets open, and the two errors. -/
structure Pz (w : World) (pb rb : Nat) (s : ByteArray) (aT aD : Addr) (p d : Nat) : Prop where
  rdr : w.cell? ⟨pb, 0, none⟩ = some (.pointer (some ⟨rb, 0, none⟩))
  opn : w.cell? ⟨pb, 1, none⟩ = some (.int .i64 ((d : Nat) : Int))
  free : w.frozen? ⟨pb, 1, none⟩ = false
  rd : RdAt w rb s p
  eT : w.cell? ⟨5, 0, none⟩ = some (errVal aT)
  eD : w.cell? ⟨1, 0, none⟩ = some (errVal aD)
  hs : s.size ≤ 2000
  hne : rb ≠ pb
  h1 : 15 ≤ rb
  h2 : 15 ≤ pb
  hp : p ≤ s.size
  hd : d ≤ 16

/-- Of what was there only the parser and its reader have turned. -/
def PT (pb rb : Nat) (w w' : World) : Prop := Touch (fun k => k = rb ∨ k = pb) w w'
theorem PT.of_below {pb rb : Nat} {w w' : World} (h : Below w.heap.size w w') : PT pb rb w w' := Touch.of_below h
theorem PT.trans {pb rb : Nat} {a b c : World} (h : PT pb rb a b) (k : PT pb rb b c) : PT pb rb a c := Touch.trans h k
theorem PT.refl {pb rb : Nat} (w : World) : PT pb rb w w := Touch.refl _ w

theorem Pz.keep {w w' : World} {pb rb : Nat} {s : ByteArray} {aT aD : Addr} {p d : Nat} (h : Pz w pb rb s aT aD p d) (hb : Below w.heap.size w w') : Pz w' pb rb s aT aD p d :=
  { h with
    rdr := Below.cellv hb h.rdr
    opn := Below.cellv hb h.opn
    free := by rw [hb.frozen (p := ⟨pb, 1, none⟩) (cell_lt h.opn)]; exact h.free
    rd := ⟨Below.cellv hb h.rd.text, Below.cellv hb h.rd.place, by rw [hb.frozen (p := ⟨rb, 1, none⟩) (cell_lt h.rd.place)]; exact h.rd.free⟩
    eT := Below.cellv hb h.eT
    eD := Below.cellv hb h.eD }
theorem Pz.step {w w' : World} {pb rb : Nat} {s : ByteArray} {aT aD : Addr} {p d q : Nat} (h : Pz w pb rb s aT aD p d) (ht : Touch (· = rb) w w') (hr : RdAt w' rb s q) (hq : q ≤ s.size) : Pz w' pb rb s aT aD q d :=
  { h with
    rdr := ht.cell h.rdr (Ne.symm h.hne)
    opn := ht.cell h.opn (Ne.symm h.hne)
    free := by rw [ht.frozen (p := ⟨pb, 1, none⟩) (cell_lt h.opn) (Ne.symm h.hne)]; exact h.free
    rd := hr
    eT := ht.cell h.eT (by have := h.h1; show ¬ (5 = rb); omega)
    eD := ht.cell h.eD (by have := h.h1; show ¬ (1 = rb); omega)
    hp := hq }

theorem bodyL_other {k : K} (hk : k ≠ .txt) (l : List UInt8) : bodyL k l = l := by cases k <;> first | rfl | exact absurd rfl hk

theorem next_bad {w : World} {pb rb : Nat} {s : ByteArray} {aT aD : Addr} {p d : Nat} (h : Pz w pb rb s aT aD p d) {t : Tok} {ts : List Tok} (hts : IsToks s.data.toList p (t :: ts)) (hk : t.k = .bad) :
    Calls Tryz.prog 121 #[.pointer (some ⟨rb, 0, none⟩)] w fun e w' => e = .returned (.tuple #[tokV 0 0 ⟨#[]⟩, wrongV t.at_ aT]) ∧ PT pb rb w w' := by
  have e : nextTok s.data.toList p = t := by cases hts <;> rfl
  refine (next_any rb s p w aT h.rd h.hp h.hs h.eT (by have := h.h1; show ¬ rb = 5; omega)).mono ?_
  rintro e' w' ⟨ht, hn⟩
  rw [e] at hn
  unfold nextPost at hn
  rw [hk] at hn
  exact ⟨hn, ht.mono fun k hk => Or.inl hk⟩
theorem next_good {w : World} {pb rb : Nat} {s : ByteArray} {aT aD : Addr} {p d : Nat} (h : Pz w pb rb s aT aD p d) {t : Tok} {ts : List Tok} (hts : IsToks s.data.toList p (t :: ts)) (hk : t.k ≠ .bad) :
    Calls Tryz.prog 121 #[.pointer (some ⟨rb, 0, none⟩)] w fun e w' => ∃ bd : ByteArray, e = .returned (.tuple #[tokV (kcode t.k) t.at_ bd, .nilIface]) ∧ bd.data.toList = bodyL t.k t.body ∧ bd.size ≤ 2000 ∧ PT pb rb w w'
      ∧ ∃ q, Pz w' pb rb s aT aD q d ∧ (t.k ≠ .eof → IsToks s.data.toList q ts) := by
  have e : nextTok s.data.toList p = t := by cases hts <;> rfl
  have hp := h.hp
  have hl := len_data s
  refine (next_any rb s p w aT h.rd h.hp h.hs h.eT (by have := h.h1; show ¬ rb = 5; omega)).mono ?_
  rintro e' w' ⟨ht, hn⟩
  rw [e] at hn
  have key : ∃ body : ByteArray, body.data.toList = bodyL t.k t.body ∧ body.size ≤ 2000 ∧ e' = .returned (.tuple #[tokV (kcode t.k) t.at_ body, .nilIface]) ∧ RdAt w' rb s (t.at_ + t.body.length) := by
    unfold nextPost at hn
    cases hk2 : t.k <;> rw [hk2] at hn <;> first | exact absurd hk2 hk | exact hn
  obtain ⟨bd, b1, b2, b3, b4⟩ := key
  refine ⟨bd, b3, b1, b2, ht.mono fun k hk => Or.inl hk, _, h.step ht b4 ?_, ?_⟩
  · by_cases he : t.k = .eof
    · have h1 := nextTok_at s.data.toList p (by omega)
      have h2 : t.body = [] := by
        rw [← e] at he ⊢
        simp only [nextTok] at he ⊢
        rw [(measureL_eof _ he).2]
        rfl
      rw [e] at h1
      rw [h2]
      simp
      omega
    · have h1 := nextTok_len s.data.toList p (by omega) (by rw [e]; exact he) (by rw [e]; exact hk)
      rw [e] at h1
      omega
  · intro he
    cases hts with
    | last h => rcases h with g | g
                · exact absurd g he
                · exact absurd g hk
    | more _ _ h3 => exact h3

theorem Pz.bump {w : World} {pb rb : Nat} {s : ByteArray} {aT aD : Addr} {p d d' : Nat} {v : Value} {o : Obj} (h : Pz w pb rb s aT aD p d) (hd : d' ≤ 16) (hv : v = .int .i64 ((d' : Nat) : Int)) :
    Pz ((w.setCell ⟨pb, 1, none⟩ v).alloc o) pb rb s aT aD p d' ∧ PT pb rb w ((w.setCell ⟨pb, 1, none⟩ v).alloc o) := by
  subst hv
  have hne := h.hne
  have g1 := h.h1
  have g2 := h.h2
  have far : ∀ {a : Addr} {x : Value}, w.cell? a = some x → a ≠ ⟨pb, 1, none⟩ → ((w.setCell ⟨pb, 1, none⟩ (.int .i64 ((d' : Nat) : Int))).alloc o).cell? a = some x := fun {a x} ha hn =>
    alloc_cell (by rw [World.cell?_setCell_other _ _ _ _ (Ne.symm hn)]; exact ha)
  have hsz : (w.setCell ⟨pb, 1, none⟩ (.int .i64 ((d' : Nat) : Int))).heap.size = w.heap.size := by simp [World.setCell]
  have fr : ∀ (a : Addr), a.block < w.heap.size → w.frozen? a = false → ((w.setCell ⟨pb, 1, none⟩ (.int .i64 ((d' : Nat) : Int))).alloc o).frozen? a = false := fun a hlt hf => by
    rw [World.frozen?_alloc_old _ _ _ (by rw [hsz]; exact Nat.ne_of_lt hlt), World.frozen?_setCell]; exact hf
  refine ⟨{ h with
    rdr := far h.rdr (by simp)
    opn := alloc_cell (World.cell?_setCell_same _ _ _ h.opn)
    free := fr _ (cell_lt h.opn) h.free
    rd := ⟨far h.rd.text (by simp), far h.rd.place (by simp), fr _ (cell_lt h.rd.place) h.rd.free⟩
    eT := far h.eT (by simp)
    eD := far h.eD (by simp)
    hd := hd }, ((Touch.refl _ w).setCell (Or.inl (Or.inr rfl)) _).alloc o⟩

set_option maxHeartbeats 1000000 in
theorem enter_ok {w : World} {pb rb : Nat} {s : ByteArray} {aT aD : Addr} {p d : Nat} (h : Pz w pb rb s aT aD p d) (at_ : Nat) (bd : ByteArray) (hd : d ≠ 16) :
    Calls Tryz.prog 166 #[.pointer (some ⟨pb, 0, none⟩), tokV 1 at_ bd] w fun e w' => e = .returned .nilIface ∧ PT pb rb w w' ∧ Pz w' pb rb s aT aD p (d + 1) := by
  have hz := h
  obtain ⟨r1, r2, r3, r4, e1, e2, s1, s2, s3, s4, s5, s6⟩ := h
  have hlt := cell_lt r2
  have hn := World.new_ne w _ r2
  have hd2 : ((d : Int) == 16) = false := by simp; omega
  have hd3 : (d : Int) ≤ 16 := by omega
  have hf : ∀ o, (w.alloc o).frozen? ⟨pb, 1, none⟩ = false := fun o => by
    rw [World.frozen?_alloc_old _ _ _ (Nat.ne_of_lt hlt)]; exact r3
  go_enter Tryz.func166, Tryz.ntmps166
  go_wp2
  go_ret
  have hb := hz.bump (d' := d + 1) (v := .int .i64 ((d : Int) + 1)) (o := Obj.cells #[.int .i64 1, .int .i64 ((at_ : Nat) : Int), .string bd] 253) (by omega) (by go_num)
  exact ⟨rfl, hb.2, hb.1⟩
set_option maxHeartbeats 1000000 in
theorem enter_deep {w : World} {pb rb : Nat} {s : ByteArray} {aT aD : Addr} {p : Nat} (h : Pz w pb rb s aT aD p 16) (at_ : Nat) (bd : ByteArray) :
    Calls Tryz.prog 166 #[.pointer (some ⟨pb, 0, none⟩), tokV 1 at_ bd] w fun e w' => e = .returned (wrongV at_ aD) ∧ Below w.heap.size w w' := by
  obtain ⟨r1, r2, r3, r4, e1, e2, s1, s2, s3, s4, s5, s6⟩ := h
  have hlt := cell_lt r2
  have hn := World.new_ne w _ r2
  have hlt2 := cell_lt e2
  have hn2 := World.new_ne w _ e2
  go_enter Tryz.func166, Tryz.ntmps166
  go_wp2
  go_ret
  exact ⟨rfl, (Below.refl _ _).alloc (Nat.le_refl _) _⟩
set_option maxHeartbeats 1000000 in
theorem enter_no {w : World} {pb rb : Nat} {s : ByteArray} {aT aD : Addr} {p d : Nat} (h : Pz w pb rb s aT aD p d) (k : Int) (at_ : Nat) (bd : ByteArray) (hk : ¬ k = 1) :
    Calls Tryz.prog 166 #[.pointer (some ⟨pb, 0, none⟩), tokV k at_ bd] w fun e w' => e = .returned (wrongV at_ aT) ∧ Below w.heap.size w w' := by
  have e1 := h.eT
  clear h
  go_enter Tryz.func166, Tryz.ntmps166
  go_wp2_with (go_at_call 210; refine (misplaced_any k at_ bd _ aT ?_).mono ?_; (exact alloc_cell e1); rintro e w' ⟨rfl, hb⟩)
  go_ret
  exact ⟨rfl, ((Below.refl _ _).alloc (Nat.le_refl _) _).trans (hb.mono (by simp))⟩
set_option maxHeartbeats 1000000 in
theorem leave_ok {w : World} {pb rb : Nat} {s : ByteArray} {aT aD : Addr} {p d : Nat} (h : Pz w pb rb s aT aD p (d + 1)) (at_ : Nat) (bd : ByteArray) :
    Calls Tryz.prog 212 #[.pointer (some ⟨pb, 0, none⟩), tokV 2 at_ bd] w fun e w' => e = .returned .nilIface ∧ PT pb rb w w' ∧ Pz w' pb rb s aT aD p d := by
  have hz := h
  obtain ⟨r1, r2, r3, r4, e1, e2, s1, s2, s3, s4, s5, s6⟩ := h
  have hlt := cell_lt r2
  have hn := World.new_ne w _ r2
  have hd3 : (d : Int) ≤ 15 := by omega
  have r2' : w.cell? ⟨pb, 1, none⟩ = some (.int .i64 ((d : Int) + 1)) := by rw [r2]; rfl
  clear r2
  have hf : ∀ o, (w.alloc o).frozen? ⟨pb, 1, none⟩ = false := fun o => by
    rw [World.frozen?_alloc_old _ _ _ (Nat.ne_of_lt hlt)]; exact r3
  go_enter Tryz.func212, Tryz.ntmps212
  go_wp2
  go_ret
  have hb := hz.bump (d' := d) (v := .int .i64 ((d : Nat) : Int)) (o := Obj.cells #[.int .i64 2, .int .i64 ((at_ : Nat) : Int), .string bd] 253) (by omega) rfl
  exact ⟨rfl, hb.2, hb.1⟩
set_option maxHeartbeats 1000000 in
theorem leave_no {w : World} {pb rb : Nat} {s : ByteArray} {aT aD : Addr} {p d : Nat} (h : Pz w pb rb s aT aD p d) (k : Int) (at_ : Nat) (bd : ByteArray) (hk : ¬ k = 2) :
    Calls Tryz.prog 212 #[.pointer (some ⟨pb, 0, none⟩), tokV k at_ bd] w fun e w' => e = .returned (wrongV at_ aT) ∧ Below w.heap.size w w' := by
  have e1 := h.eT
  clear h
  go_enter Tryz.func212, Tryz.ntmps212
  go_wp2_with (go_at_call 210; refine (misplaced_any k at_ bd _ aT ?_).mono ?_; (exact alloc_cell e1); rintro e w' ⟨rfl, hb⟩)
  go_ret
  exact ⟨rfl, ((Below.refl _ _).alloc (Nat.le_refl _) _).trans (hb.mono (by simp))⟩
end Go.Proofs.YtdiefbahmcihlaaGreatDoor
