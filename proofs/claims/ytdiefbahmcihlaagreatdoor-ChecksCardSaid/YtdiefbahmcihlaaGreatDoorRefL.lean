/-
  The reference: names.
-/
import Derived.Test.YtdiefbahmcihlaaGreatDoorRefL0
import Derived.Test.YtdiefbahmcihlaaGreatDoorPure
import Derived.Deep.QuietTactic
namespace Go.Proofs.YtdiefbahmcihlaaGreatDoor
open Go.RowKit
attribute [local go_sem ↓] Go.wp_at_zero Go.wp_at_succ

def nmPost (o : Option (Nat × Nat)) (w : World) (e : Ending) (w' : World) : Prop :=
  Below w.heap.size w w' ∧ ((o = none ∧ e = .returned (.tuple #[.int .i64 0, .int .i64 0])) ∨ ∃ c p : Nat, o = some (c, p) ∧ c ≠ 0 ∧ e = .returned (.tuple #[.int .i64 (c : Int), .int .i64 (p : Int)]))
def namesR (bs : List ByteArray) : List (List UInt8) := bs.map fun b => b.data.toList
def NamDo (rb : Nat) (fv pv : Value) (fs : List FunV) (ps : List PartV) (fns : List Fn) (n : Nat) : Prop :=
  ∀ (ex : Ex) (i : Nat) (sv : Value) (bs : List ByteArray) (w : World) (lo many : Nat) (D : Nat → Prop), szE ex ≤ n → WfE ex → PM w rb fv pv fs ps fns → RepP w (fun _ => True) ps lo ex i → RowAt w D 9 1 sv bs.length (strsV bs) → bs.length + szE ex ≤ 100000 → many ≤ fs.length →
    Calls Tryz.prog 105 #[.pointer (some ⟨rb, 5, none⟩), .int .i64 ((i : Nat) : Int), sv, .int .i64 ((many : Nat) : Int)] w (nmPost (nmE ((fns.take many).map sigOf) (namesR bs) ex) w)
abbrev partO (op : ByteArray) (n : Int) (s : ByteArray) (p : Nat) (kv : Value) : Obj := .cells #[.string op, .int .i64 n, .string s, .int .i64 ((p : Nat) : Int), kv] 319
theorem below_none {w w' : World} (h : w.grownBy w' none) : Below w.heap.size w w' := Below.grown (Below.refl _ _) h (Nat.le_refl _) (fun k hk => by cases hk)
theorem RepPs_at {w : World} {D : Nat → Prop} {ps : List PartV} {lo : Nat} : ∀ {es : List Ex} {js : List Nat}, RepPs w D ps lo es js → ∀ j (h1 : j < es.length) (h2 : j < js.length), RepP w D ps lo es[j] js[j]
  | [], js, h, j, h1, h2 => by simp at h1
  | e :: es, js, h, j, h1, h2 => by
    rw [RepPs] at h
    obtain ⟨i, r, rfl, h3, h4⟩ := h
    cases j with
    | zero => exact h3
    | succ j => exact RepPs_at h4 j (by simpa using h1) (by simpa using h2)
theorem callErr_code {fs : List (List UInt8 × Nat)} {n : List UInt8} {a k c p : Nat} (h : callErr fs n a k = some (c, p)) : c ≠ 0 := by
  unfold callErr at h
  split at h
  · cases h; decide
  · split at h
    · cases h
    · cases h; decide
theorem orE_code {a b : Option (Nat × Nat)} {c p : Nat} (h : orE a b = some (c, p)) : a = some (c, p) ∨ b = some (c, p) := by
  cases a with
  | none => exact Or.inr h
  | some x => exact Or.inl h
mutual
theorem nmE_code (fs : List (List UInt8 × Nat)) (sc : List (List UInt8)) : ∀ (e : Ex) (c p : Nat), nmE fs sc e = some (c, p) → c ≠ 0
  | .num _, c, p, h => by rw [nmE] at h; cases h
  | .txt _, c, p, h => by rw [nmE] at h; cases h
  | .var n a, c, p, h => by
    rw [nmE] at h
    split at h
    · cases h
    · cases h; decide
  | .form w n a ks, c, p, h => by
    rw [nmE] at h
    split at h
    · rcases orE_code h with g | g
      · exact callErr_code g
      · exact nmEs_code fs sc ks c p g
    · split at h
      · cases ks with
        | nil => rw [nmLet] at h; cases h
        | cons x r =>
          rw [nmLet] at h
          rcases orE_code h with g | g
          · exact nmE_code fs sc x c p g
          · exact nmEs_code fs _ r c p g
      · exact nmEs_code fs sc ks c p h
theorem nmEs_code (fs : List (List UInt8 × Nat)) (sc : List (List UInt8)) : ∀ (es : List Ex) (c p : Nat), nmEs fs sc es = some (c, p) → c ≠ 0
  | [], c, p, h => by rw [nmEs] at h; cases h
  | e :: es, c, p, h => by
    rw [nmEs] at h
    rcases orE_code h with g | g
    · exact nmE_code fs sc e c p g
    · exact nmEs_code fs sc es c p g
end
theorem drawnB {B : Nat} {a w : World} (h : Below B a w) {n : Nat} : Below B a (w.drewN n) := below_drewN h n
section
variable {w : World} {rb : Nat} {fv pv : Value} {fs : List FunV} {ps : List PartV} {fns : List Fn}
set_option maxRecDepth 8000 in
set_option maxHeartbeats 4000000 in
theorem names_leaf (h : PM w rb fv pv fs ps fns) (i : Nat) (hi : i < ps.length) (sv : Value) (many : Nat) (_hm : many ≤ fs.length) (q1 : ((ps[i]'hi).op.toList == [97]) = false) (q2 : ((ps[i]'hi).op.toList == [99, 97, 108, 108]) = false) (q3 : ((ps[i]'hi).op.toList == [109, 97, 112]) = false) (hkv : (ps[i]'hi).kv = .slice none 0 0) :
    Calls Tryz.prog 105 #[.pointer (some ⟨rb, 5, none⟩), .int .i64 ((i : Nat) : Int), sv, .int .i64 ((many : Nat) : Int)] w (nmPost none w) := by
  have c5 := h.c5
  have c6 := h.c6
  have hp := h.hp
  obtain ⟨pg, pc, hpv, hc1, hc2, a0, a1, a2, a3, a4⟩ := h.part i hi
  unfold maxLen at hc2
  have hpg := cell_lt a0
  have hrb := cell_lt c5
  have hne1 := World.new_ne w _ a0
  have hne2 := World.new_ne w _ c5
  generalize (ps[i]'hi).op = op at *
  generalize (ps[i]'hi).n = nn at *
  generalize (ps[i]'hi).s = ss at *
  generalize (ps[i]'hi).at_ = pp at *
  generalize (ps[i]'hi).kv = kv at *
  subst hkv
  subst hpv
  go_enter Tryz.func105, Tryz.ntmps105
  go_wp2
  go_loop [13] (fun iv => iv = .int .i64 0) (fun _ => 0)
  case atStart => rfl
  case round =>
    subst hrel
    go_wp2
    go_ret2
    exact ⟨below1 w _, Or.inl ⟨rfl, rfl⟩⟩
set_option maxRecDepth 8000 in
set_option maxHeartbeats 4000000 in
theorem names_var (h : PM w rb fv pv fs ps fns) (i : Nat) (hi : i < ps.length) (sv : Value) (many : Nat) (_hm : many ≤ fs.length) (q1 : ((ps[i]'hi).op.toList == [97]) = true) (q2 : ((ps[i]'hi).op.toList == [99, 97, 108, 108]) = false) (q3 : ((ps[i]'hi).op.toList == [109, 97, 112]) = false) (hkv : (ps[i]'hi).kv = .slice none 0 0) (bs : List ByteArray) (D : Nat → Prop) (hS : RowAt w D 9 1 sv bs.length (strsV bs)) (hbs : bs.length ≤ 100000) (hin : hasS bs (ps[i]'hi).s = true) :
    Calls Tryz.prog 105 #[.pointer (some ⟨rb, 5, none⟩), .int .i64 ((i : Nat) : Int), sv, .int .i64 ((many : Nat) : Int)] w (nmPost none w) := by
  have c5 := h.c5
  have c6 := h.c6
  have hp := h.hp
  obtain ⟨pg, pc, hpv, hc1, hc2, a0, a1, a2, a3, a4⟩ := h.part i hi
  unfold maxLen at hc2
  have hpg := cell_lt a0
  have hrb := cell_lt c5
  have hne1 := World.new_ne w _ a0
  have hne2 := World.new_ne w _ c5
  have cin := in_any sv bs (ps[i]'hi).s (w.alloc (partO (ps[i]'hi).op (ps[i]'hi).n (ps[i]'hi).s (ps[i]'hi).at_ (ps[i]'hi).kv)) D (row_below hS (below1 w _)) hbs
  rw [hin] at cin
  generalize (ps[i]'hi).op = op at *
  generalize (ps[i]'hi).n = nn at *
  generalize (ps[i]'hi).s = ss at *
  generalize (ps[i]'hi).at_ = pp at *
  generalize (ps[i]'hi).kv = kv at *
  subst hkv
  subst hpv
  go_enter Tryz.func105, Tryz.ntmps105
  go_wp2_with (go_at_call 104; refine cin.mono ?_; rintro r w2 ⟨rfl, rfl⟩)
  go_loop [13] (fun iv => iv = .int .i64 0) (fun _ => 0)
  case atStart => rfl
  case round =>
    subst hrel
    go_wp2
    go_ret2
    exact ⟨below1 w _, Or.inl ⟨rfl, rfl⟩⟩
set_option maxRecDepth 8000 in
set_option maxHeartbeats 4000000 in
theorem names_novar (h : PM w rb fv pv fs ps fns) (i : Nat) (hi : i < ps.length) (sv : Value) (many : Nat) (_hm : many ≤ fs.length) (q1 : ((ps[i]'hi).op.toList == [97]) = true) (_q2 : ((ps[i]'hi).op.toList == [99, 97, 108, 108]) = false) (_q3 : ((ps[i]'hi).op.toList == [109, 97, 112]) = false) (hkv : (ps[i]'hi).kv = .slice none 0 0) (bs : List ByteArray) (D : Nat → Prop) (hS : RowAt w D 9 1 sv bs.length (strsV bs)) (hbs : bs.length ≤ 100000) (hin : hasS bs (ps[i]'hi).s = false) :
    Calls Tryz.prog 105 #[.pointer (some ⟨rb, 5, none⟩), .int .i64 ((i : Nat) : Int), sv, .int .i64 ((many : Nat) : Int)] w (nmPost (some (4, (ps[i]'hi).at_)) w) := by
  have c5 := h.c5
  have c6 := h.c6
  have hp := h.hp
  obtain ⟨pg, pc, hpv, hc1, hc2, a0, a1, a2, a3, a4⟩ := h.part i hi
  unfold maxLen at hc2
  have hpg := cell_lt a0
  have hrb := cell_lt c5
  have hne1 := World.new_ne w _ a0
  have hne2 := World.new_ne w _ c5
  have cin := in_any sv bs (ps[i]'hi).s (w.alloc (partO (ps[i]'hi).op (ps[i]'hi).n (ps[i]'hi).s (ps[i]'hi).at_ (ps[i]'hi).kv)) D (row_below hS (below1 w _)) hbs
  rw [hin] at cin
  generalize (ps[i]'hi).op = op at *
  generalize (ps[i]'hi).n = nn at *
  generalize (ps[i]'hi).s = ss at *
  generalize (ps[i]'hi).at_ = pp at *
  generalize (ps[i]'hi).kv = kv at *
  subst hkv
  subst hpv
  go_enter Tryz.func105, Tryz.ntmps105
  go_wp2_with (go_at_call 104; refine cin.mono ?_; rintro r w2 ⟨rfl, rfl⟩)
  go_quiet (fail)
  go_wp2
  go_ret2
  exact ⟨drawnB (below1 w _), Or.inr ⟨4, pp, rfl, by decide, rfl⟩⟩
set_option maxRecDepth 8000 in
set_option maxHeartbeats 4000000 in
theorem names_none_call (h : PM w rb fv pv fs ps fns) (i : Nat) (hi : i < ps.length) (sv : Value) (many : Nat) (hm : many ≤ fs.length) (q1 : ((ps[i]'hi).op.toList == [97]) = false) (q2 : ((ps[i]'hi).op.toList == [99, 97, 108, 108]) = true) (_q3 : ((ps[i]'hi).op.toList == [109, 97, 112]) = false) (kad : Option Addr) (kn kcp : Nat) (hkv : (ps[i]'hi).kv = .slice kad kn kcp) (hnone : ∀ r, FindIs fs (ps[i]'hi).s.toList many r → r = -1) :
    Calls Tryz.prog 105 #[.pointer (some ⟨rb, 5, none⟩), .int .i64 ((i : Nat) : Int), sv, .int .i64 ((many : Nat) : Int)] w (nmPost (some (4, (ps[i]'hi).at_)) w) := by
  have c5 := h.c5
  have c6 := h.c6
  have hp := h.hp
  obtain ⟨pg, pc, hpv, hc1, hc2, a0, a1, a2, a3, a4⟩ := h.part i hi
  unfold maxLen at hc2
  have hpg := cell_lt a0
  have hrb := cell_lt c5
  have hne1 := World.new_ne w _ a0
  have hne2 := World.new_ne w _ c5
  have cfi := find_any (h.below (below1 w (partO (ps[i]'hi).op (ps[i]'hi).n (ps[i]'hi).s (ps[i]'hi).at_ (ps[i]'hi).kv))) (ps[i]'hi).s many hm
  generalize (ps[i]'hi).op = op at *
  generalize (ps[i]'hi).n = nn at *
  generalize (ps[i]'hi).s = ss at *
  generalize (ps[i]'hi).at_ = pp at *
  generalize (ps[i]'hi).kv = kv at *
  subst hkv
  subst hpv
  go_enter Tryz.func105, Tryz.ntmps105
  go_wp2_with (go_at_call 103; refine cfi.mono ?_; rintro r w2 ⟨⟨fr, rfl, hfr⟩, rfl⟩; obtain rfl := hnone _ hfr)
  go_quiet (fail)
  go_wp2
  go_ret2
  exact ⟨drawnB (below1 w _), Or.inr ⟨4, pp, rfl, by decide, rfl⟩⟩
set_option maxRecDepth 8000 in
set_option maxHeartbeats 4000000 in
theorem names_none_map (h : PM w rb fv pv fs ps fns) (i : Nat) (hi : i < ps.length) (sv : Value) (many : Nat) (hm : many ≤ fs.length) (q1 : ((ps[i]'hi).op.toList == [97]) = false) (q2 : ((ps[i]'hi).op.toList == [99, 97, 108, 108]) = false) (q3 : ((ps[i]'hi).op.toList == [109, 97, 112]) = true) (kad : Option Addr) (kn kcp : Nat) (hkv : (ps[i]'hi).kv = .slice kad kn kcp) (hnone : ∀ r, FindIs fs (ps[i]'hi).s.toList many r → r = -1) :
    Calls Tryz.prog 105 #[.pointer (some ⟨rb, 5, none⟩), .int .i64 ((i : Nat) : Int), sv, .int .i64 ((many : Nat) : Int)] w (nmPost (some (4, (ps[i]'hi).at_)) w) := by
  have c5 := h.c5
  have c6 := h.c6
  have hp := h.hp
  obtain ⟨pg, pc, hpv, hc1, hc2, a0, a1, a2, a3, a4⟩ := h.part i hi
  unfold maxLen at hc2
  have hpg := cell_lt a0
  have hrb := cell_lt c5
  have hne1 := World.new_ne w _ a0
  have hne2 := World.new_ne w _ c5
  have cfi := find_any (h.below (below1 w (partO (ps[i]'hi).op (ps[i]'hi).n (ps[i]'hi).s (ps[i]'hi).at_ (ps[i]'hi).kv))) (ps[i]'hi).s many hm
  generalize (ps[i]'hi).op = op at *
  generalize (ps[i]'hi).n = nn at *
  generalize (ps[i]'hi).s = ss at *
  generalize (ps[i]'hi).at_ = pp at *
  generalize (ps[i]'hi).kv = kv at *
  subst hkv
  subst hpv
  go_enter Tryz.func105, Tryz.ntmps105
  go_wp2_with (go_at_call 103; refine cfi.mono ?_; rintro r w2 ⟨⟨fr, rfl, hfr⟩, rfl⟩; obtain rfl := hnone _ hfr)
  go_quiet (fail)
  go_wp2
  go_ret2
  exact ⟨drawnB (below1 w _), Or.inr ⟨4, pp, rfl, by decide, rfl⟩⟩
set_option maxRecDepth 8000 in
set_option maxHeartbeats 4000000 in
theorem names_arity_call (h : PM w rb fv pv fs ps fns) (i : Nat) (hi : i < ps.length) (sv : Value) (many : Nat) (hm : many ≤ fs.length) (q1 : ((ps[i]'hi).op.toList == [97]) = false) (q2 : ((ps[i]'hi).op.toList == [99, 97, 108, 108]) = true) (_q3 : ((ps[i]'hi).op.toList == [109, 97, 112]) = false) (kad : Option Addr) (kn kcp : Nat) (hkv : (ps[i]'hi).kv = .slice kad kn kcp) (j : Nat) (hj : j < fs.length) (hfound : ∀ r, FindIs fs (ps[i]'hi).s.toList many r → r = (j : Int)) (aad : Option Addr) (an acp : Nat) (hav : (fs[j]'hj).pv = .slice aad an acp) (hne : ¬ an = kn) :
    Calls Tryz.prog 105 #[.pointer (some ⟨rb, 5, none⟩), .int .i64 ((i : Nat) : Int), sv, .int .i64 ((many : Nat) : Int)] w (nmPost (some (6, (ps[i]'hi).at_)) w) := by
  have c5 := h.c5
  have c6 := h.c6
  have hp := h.hp
  obtain ⟨pg, pc, hpv, hc1, hc2, a0, a1, a2, a3, a4⟩ := h.part i hi
  unfold maxLen at hc2
  have hpg := cell_lt a0
  have hrb := cell_lt c5
  have hne1 := World.new_ne w _ a0
  have hne2 := World.new_ne w _ c5
  have cfi := find_any (h.below (below1 w (partO (ps[i]'hi).op (ps[i]'hi).n (ps[i]'hi).s (ps[i]'hi).at_ (ps[i]'hi).kv))) (ps[i]'hi).s many hm
  obtain ⟨fg, fc, hfv, hd1, hd2, b0, b1, b2, b3, b4⟩ := h.fun j hj
  unfold maxLen at hd2
  have hne3 := World.new_ne w _ b0
  have hff := h.hf
  rw [hav] at b2
  clear b0 b1 b3 b4 hav
  generalize (ps[i]'hi).op = op at *
  generalize (ps[i]'hi).n = nn at *
  generalize (ps[i]'hi).s = ss at *
  generalize (ps[i]'hi).at_ = pp at *
  generalize (ps[i]'hi).kv = kv at *
  subst hkv
  subst hfv
  have b2p := alloc_cell (o := partO op nn ss pp (.slice kad kn kcp)) b2
  subst hpv
  go_enter Tryz.func105, Tryz.ntmps105
  go_wp2_with (go_at_call 103; refine cfi.mono ?_; rintro r w2 ⟨⟨fr, rfl, hfr⟩, rfl⟩; obtain rfl := hfound _ hfr; clear hfr)
  go_region
  all_goals go_wp2
  all_goals go_quiet (fail)
  all_goals go_wp2
  all_goals go_ret2
  all_goals refine ⟨?_, Or.inr ⟨6, pp, rfl, by decide, rfl⟩⟩
  all_goals first
    | exact drawnB (below1 w _)
    | exact drawnB (drawnB (below1 w _))
    | exact drawnB (below1 w _).drew
set_option maxRecDepth 8000 in
set_option maxHeartbeats 4000000 in
theorem names_arity_map (h : PM w rb fv pv fs ps fns) (i : Nat) (hi : i < ps.length) (sv : Value) (many : Nat) (hm : many ≤ fs.length) (q1 : ((ps[i]'hi).op.toList == [97]) = false) (q2 : ((ps[i]'hi).op.toList == [99, 97, 108, 108]) = false) (q3 : ((ps[i]'hi).op.toList == [109, 97, 112]) = true) (kad : Option Addr) (kn kcp : Nat) (hkv : (ps[i]'hi).kv = .slice kad kn kcp) (j : Nat) (hj : j < fs.length) (hfound : ∀ r, FindIs fs (ps[i]'hi).s.toList many r → r = (j : Int)) (aad : Option Addr) (an acp : Nat) (hav : (fs[j]'hj).pv = .slice aad an acp) (hne : ¬ an = kn) :
    Calls Tryz.prog 105 #[.pointer (some ⟨rb, 5, none⟩), .int .i64 ((i : Nat) : Int), sv, .int .i64 ((many : Nat) : Int)] w (nmPost (some (6, (ps[i]'hi).at_)) w) := by
  have c5 := h.c5
  have c6 := h.c6
  have hp := h.hp
  obtain ⟨pg, pc, hpv, hc1, hc2, a0, a1, a2, a3, a4⟩ := h.part i hi
  unfold maxLen at hc2
  have hpg := cell_lt a0
  have hrb := cell_lt c5
  have hne1 := World.new_ne w _ a0
  have hne2 := World.new_ne w _ c5
  have cfi := find_any (h.below (below1 w (partO (ps[i]'hi).op (ps[i]'hi).n (ps[i]'hi).s (ps[i]'hi).at_ (ps[i]'hi).kv))) (ps[i]'hi).s many hm
  obtain ⟨fg, fc, hfv, hd1, hd2, b0, b1, b2, b3, b4⟩ := h.fun j hj
  unfold maxLen at hd2
  have hne3 := World.new_ne w _ b0
  have hff := h.hf
  rw [hav] at b2
  clear b0 b1 b3 b4 hav
  generalize (ps[i]'hi).op = op at *
  generalize (ps[i]'hi).n = nn at *
  generalize (ps[i]'hi).s = ss at *
  generalize (ps[i]'hi).at_ = pp at *
  generalize (ps[i]'hi).kv = kv at *
  subst hkv
  subst hfv
  have b2p := alloc_cell (o := partO op nn ss pp (.slice kad kn kcp)) b2
  subst hpv
  go_enter Tryz.func105, Tryz.ntmps105
  go_wp2_with (go_at_call 103; refine cfi.mono ?_; rintro r w2 ⟨⟨fr, rfl, hfr⟩, rfl⟩; obtain rfl := hfound _ hfr; clear hfr)
  go_region
  all_goals go_wp2
  all_goals go_quiet (fail)
  all_goals go_wp2
  all_goals go_ret2
  all_goals refine ⟨?_, Or.inr ⟨6, pp, rfl, by decide, rfl⟩⟩
  all_goals first
    | exact drawnB (below1 w _)
    | exact drawnB (drawnB (below1 w _))
    | exact drawnB (below1 w _).drew
set_option maxRecDepth 8000 in
set_option maxHeartbeats 4000000 in
theorem names_form (h : PM w rb fv pv fs ps fns) (i : Nat) (hi : i < ps.length) (sv : Value) (many : Nat) (hm : many ≤ fs.length) (q1 : ((ps[i]'hi).op.toList == [97]) = false) (q2 : ((ps[i]'hi).op.toList == [99, 97, 108, 108]) = false) (q3 : ((ps[i]'hi).op.toList == [109, 97, 112]) = false) (kad : Option Addr) (kcp : Nat) (bs : List ByteArray) (D : Nat → Prop) (hS : RowAt w D 9 1 sv bs.length (strsV bs)) (ks : List Ex) (js : List Nat) (hkv : (ps[i]'hi).kv = .slice kad js.length kcp) (lo n : Nat) (hjs : RowAt w (fun _ => True) 3 1 (ps[i]'hi).kv js.length (kidsV js)) (hks : RepPs w (fun _ => True) ps lo ks js) (hwf : WfEs ks) (hsz : szEs ks ≤ n + 1) (hbs : bs.length + szEs ks + 1 ≤ 100000) (IH : NamDo rb fv pv fs ps fns n) :
    Calls Tryz.prog 105 #[.pointer (some ⟨rb, 5, none⟩), .int .i64 ((i : Nat) : Int), sv, .int .i64 ((many : Nat) : Int)] w (nmPost (nmK ((fns.take many).map sigOf) (namesR bs) (ps[i]'hi).op.data.toList (ps[i]'hi).s.data.toList 0 ks) w) := by
  have c5 := h.c5
  have c6 := h.c6
  have hp := h.hp
  obtain ⟨pg, pc, hpv, hc1, hc2, a0, a1, a2, a3, a4⟩ := h.part i hi
  unfold maxLen at hc2
  have hpg := cell_lt a0
  have hrb := cell_lt c5
  have hne1 := World.new_ne w _ a0
  have hne2 := World.new_ne w _ c5
  generalize (ps[i]'hi).op = op at *
  generalize (ps[i]'hi).n = nn at *
  generalize (ps[i]'hi).s = ss at *
  generalize (ps[i]'hi).at_ = pp at *
  rw [hkv] at hjs
  generalize (ps[i]'hi).kv = kv at *
  subst hkv
  generalize hRES : nmK ((fns.take many).map sigOf) (namesR bs) op.data.toList ss.data.toList 0 ks = RES at *
  have HPM := h
  subst hpv
  go_enter Tryz.func105, Tryz.ntmps105
  go_wp2
  have hjl : Aside (js.length = ks.length) := hks.length
  go_loopg [13] js.length (fun gh iv wr => ∃ q : Nat, gh = js.length - q ∧ iv = .int .i64 ((q : Nat) : Int) ∧ q ≤ js.length ∧ Below (w.alloc (partO op nn ss pp (.slice kad js.length kcp))).heap.size (w.alloc (partO op nn ss pp (.slice kad js.length kcp))) wr ∧ Aside (RES = nmK ((fns.take many).map sigOf) (namesR bs) op.data.toList ss.data.toList q (ks.drop q)))
  case atStart => exact ⟨0, by omega, rfl, by omega, Below.refl _ _, by show RES = _; rw [← hRES]; rfl⟩
  case round =>
    obtain ⟨q, rfl, rfl, hq, hbw, hR⟩ := hrel
    have hBw : Below w.heap.size w wr := (below1 w (partO op nn ss pp (.slice kad js.length kcp))).trans (hbw.mono (by simp))
    have px : Px wr w.heap.size ⟨op, nn, ss, pp, .slice kad js.length kcp⟩ := (Px.new w ⟨op, nn, ss, pp, .slice kad js.length kcp⟩ rfl).below hbw
    obtain ⟨o0, o1, o2, o3, o4⟩ := px.facts
    have hzw := hBw.size
    by_cases hlt : q < js.length
    · obtain ⟨kg, kc, hkv2, _, hk1, hk2, hkcell⟩ := hjs.cell (by omega)
      simp only [Value.slice.injEq] at hkv2
      obtain ⟨rfl, _, rfl⟩ := hkv2
      unfold maxLen at hk2
      have kq : wr.cell? ⟨kg, q, none⟩ = some (.int .i64 ((js[q] : Nat) : Int)) := Below.cellv hBw (by rw [hkcell q (by omega)]; simp [kidsV, hlt])
      have hkx : q < ks.length := by have := hjl.out; omega
      have hrx : RepP w (fun _ => True) ps lo ks[q] js[q] := RepPs_at hks q hkx hlt
      have hwx := WfEs_at ks q hkx hwf
      have hsx := szEs_at ks q hkx
      have HR2 : RES = orE (nmE ((fns.take many).map sigOf) (if (op.data.toList == [108, 101, 116] && q == 1) then namesR bs ++ [ss.data.toList] else namesR bs) ks[q]) (nmK ((fns.take many).map sigOf) (namesR bs) op.data.toList ss.data.toList (q + 1) (ks.drop (q + 1))) := by
        rw [hR.out, nmK_drop _ _ _ _ _ _ hkx]
      clear hR hkcell
      generalize js[q] = jq at *
      cases q4 : (op.toList == [108, 101, 116])
      · have hcond : (if (op.data.toList == [108, 101, 116] && q == 1) then namesR bs ++ [ss.data.toList] else namesR bs) = namesR bs := by rw [← ByteArray.toList_eq, q4]; rfl
        cases hO : nmE ((fns.take many).map sigOf) (if (op.data.toList == [108, 101, 116] && q == 1) then namesR bs ++ [ss.data.toList] else namesR bs) ks[q] with
        | none =>
          have HR3 : Aside (RES = nmK ((fns.take many).map sigOf) (namesR bs) op.data.toList ss.data.toList (q + 1) (ks.drop (q + 1))) := by show _ = _; rw [HR2, hO]; rfl
          have HR2x := HR2
          clear HR2
          have hO1 : nmE ((fns.take many).map sigOf) (namesR bs) ks[q] = none := by rw [← hO, hcond]
          have OLEM : ∀ {r : Ending}, ((nmE ((fns.take many).map sigOf) (namesR bs) ks[q] = none ∧ r = .returned (.tuple #[.int .i64 0, .int .i64 0])) ∨ ∃ c p : Nat, nmE ((fns.take many).map sigOf) (namesR bs) ks[q] = some (c, p) ∧ c ≠ 0 ∧ r = .returned (.tuple #[.int .i64 (c : Int), .int .i64 (p : Int)])) → r = .returned (.tuple #[.int .i64 0, .int .i64 0]) := by
            intro r hr
            rw [hO1] at hr
            rcases hr with ⟨g1, g2⟩ | ⟨c, p, g1, g2, g3⟩
            · exact g2
            · cases g1
          clear hO hcond HR2x
          go_wp2_with (first
            | (go_at_call 105; go_loud (refine (IH ks[q] jq _ bs w2 lo many (wr.heap.size ≤ ·) (by omega) hwx ((h.below hBw).below hB2) (hrx.map (fun _ _ _ h => h) (Nat.le_refl _) (fun _ _ _ hh => row_below (row_below hh hBw) hB2)) (RowAt.of_owns own2) (by first | omega | (simp; omega)) hm).mono ?_; rintro r w5 ⟨hb5, hO5⟩; obtain rfl := OLEM hO5))
            | (at_builtin; go_loud (obtain ⟨i0, hi0, hz0, hz1, hz2⟩ := info_parts Tryz.infoStrR; refine wpList_copy rfl _ _ 22 rfl 9 i0 _ 1 16 Tryz.underlying22 hi0 hz0 hz1 hz2 rfl (by decide) rfl sv bs.length (strsV bs) rfl (row_below hS hBw) (fun u hu => by simp [strsV] at hu; obtain ⟨b, _, rfl⟩ := hu; rfl) (by unfold maxLen; omega) (by omega) ?_; intro l1 w2 own2 hg2; clear hi0 hz0 hz1 hz2; obtain ⟨lad, lcp, rfl⟩ := owns_slice own2; have hB2 := below_none hg2; have px2 := px.below hB2; obtain ⟨t0, t1, t2, t3, t4⟩ := px2.facts; have kq2 := Below.cellv hB2 kq; have sz2 := hB2.size; have ne2 := World.new_ne w2 _ t0; have ne3 := World.new_ne w2 _ kq2)))
          go_roundg (js.length - (q + 1))
          case measure => omega
          case rel => exact ⟨q + 1, rfl, by go_num, by omega, (hbw.trans (hB2.mono (by have := hbw.size; omega))).trans (hb5.mono (by have := hB2.size; have := hbw.size; omega)), HR3.out⟩
        | some x =>
          obtain ⟨oc, op2⟩ := x
          have HR3 : Aside (RES = some (oc, op2)) := by show _ = _; rw [HR2, hO]; rfl
          have hoc : oc ≠ 0 := nmE_code _ _ _ _ _ hO
          have HR2x := HR2
          clear HR2
          have hO1 : nmE ((fns.take many).map sigOf) (namesR bs) ks[q] = some (oc, op2) := by rw [← hO, hcond]
          have OLEM : ∀ {r : Ending}, ((nmE ((fns.take many).map sigOf) (namesR bs) ks[q] = none ∧ r = .returned (.tuple #[.int .i64 0, .int .i64 0])) ∨ ∃ c p : Nat, nmE ((fns.take many).map sigOf) (namesR bs) ks[q] = some (c, p) ∧ c ≠ 0 ∧ r = .returned (.tuple #[.int .i64 (c : Int), .int .i64 (p : Int)])) → r = .returned (.tuple #[.int .i64 (oc : Int), .int .i64 (op2 : Int)]) := by
            intro r hr
            rw [hO1] at hr
            rcases hr with ⟨g1, g2⟩ | ⟨c, p, g1, g2, g3⟩
            · cases g1
            · cases g1; exact g3
          clear hO hcond HR2x
          go_wp2_with (first
            | (go_at_call 105; go_loud (refine (IH ks[q] jq _ bs w2 lo many (wr.heap.size ≤ ·) (by omega) hwx ((h.below hBw).below hB2) (hrx.map (fun _ _ _ h => h) (Nat.le_refl _) (fun _ _ _ hh => row_below (row_below hh hBw) hB2)) (RowAt.of_owns own2) (by first | omega | (simp; omega)) hm).mono ?_; rintro r w5 ⟨hb5, hO5⟩; obtain rfl := OLEM hO5))
            | (at_builtin; go_loud (obtain ⟨i0, hi0, hz0, hz1, hz2⟩ := info_parts Tryz.infoStrR; refine wpList_copy rfl _ _ 22 rfl 9 i0 _ 1 16 Tryz.underlying22 hi0 hz0 hz1 hz2 rfl (by decide) rfl sv bs.length (strsV bs) rfl (row_below hS hBw) (fun u hu => by simp [strsV] at hu; obtain ⟨b, _, rfl⟩ := hu; rfl) (by unfold maxLen; omega) (by omega) ?_; intro l1 w2 own2 hg2; clear hi0 hz0 hz1 hz2; obtain ⟨lad, lcp, rfl⟩ := owns_slice own2; have hB2 := below_none hg2; have px2 := px.below hB2; obtain ⟨t0, t1, t2, t3, t4⟩ := px2.facts; have kq2 := Below.cellv hB2 kq; have sz2 := hB2.size; have ne2 := World.new_ne w2 _ t0; have ne3 := World.new_ne w2 _ kq2)))
          go_ret2
          exact ⟨(hBw.trans (hB2.mono (by omega))).trans (hb5.mono (by have := hB2.size; omega)), Or.inr ⟨oc, op2, HR3.out, hoc, rfl⟩⟩
      · by_cases hq1 : q = 1
        · have hcond : (if (op.data.toList == [108, 101, 116] && q == 1) then namesR bs ++ [ss.data.toList] else namesR bs) = namesR bs ++ [ss.data.toList] := by rw [← ByteArray.toList_eq, q4, hq1]; rfl
          have hq1b : (((q : Nat) : Int) == 1) = true := by rw [hq1]; rfl
          clear hq1
          cases hO : nmE ((fns.take many).map sigOf) (if (op.data.toList == [108, 101, 116] && q == 1) then namesR bs ++ [ss.data.toList] else namesR bs) ks[q] with
          | none =>
            have HR3 : Aside (RES = nmK ((fns.take many).map sigOf) (namesR bs) op.data.toList ss.data.toList (q + 1) (ks.drop (q + 1))) := by show _ = _; rw [HR2, hO]; rfl
            have HR2x := HR2
            clear HR2
            have hO1 : nmE ((fns.take many).map sigOf) (namesR (bs ++ [ss])) ks[q] = none := by rw [← hO, hcond]; simp [namesR]
            have OLEM : ∀ {r : Ending}, ((nmE ((fns.take many).map sigOf) (namesR (bs ++ [ss])) ks[q] = none ∧ r = .returned (.tuple #[.int .i64 0, .int .i64 0])) ∨ ∃ c p : Nat, nmE ((fns.take many).map sigOf) (namesR (bs ++ [ss])) ks[q] = some (c, p) ∧ c ≠ 0 ∧ r = .returned (.tuple #[.int .i64 (c : Int), .int .i64 (p : Int)])) → r = .returned (.tuple #[.int .i64 0, .int .i64 0]) := by
              intro r hr
              rw [hO1] at hr
              rcases hr with ⟨g1, g2⟩ | ⟨c, p, g1, g2, g3⟩
              · exact g2
              · cases g1
            clear hO hcond HR2x
            go_wp2_with (first
              | (go_at_call 105; go_loud (refine (IH ks[q] jq _ (bs ++ [ss]) w3 lo many (wr.heap.size ≤ ·) (by omega) hwx ((h.below hBw).below hB3) (hrx.map (fun _ _ _ h => h) (Nat.le_refl _) (fun _ _ _ hh => row_below (row_below hh hBw) hB3)) (by have := RowAt.of_owns own3; simpa [strsV] using this) (by first | omega | (simp; omega)) hm).mono ?_; rintro r w5 ⟨hb5, hO5⟩; obtain rfl := OLEM hO5))
              | (at_builtin; go_loud (obtain ⟨i0, hi0, hz0, hz1, hz2⟩ := info_parts Tryz.infoStrR; refine wpList_append_own_at _ rfl _ _ 22 rfl wr.heap.size 9 i0 _ 1 16 Tryz.underlying22 hi0 hz0 hz1 hz2 rfl (by decide) _ _ _ rfl (own2.alloc _) ⟨w2.heap.size, 0, none⟩ 1 1 [.string ss] rfl rfl (cell_one_new _ _ _) (fun x hx => by simp at hx; subst hx; rfl) (by unfold maxLen; omega) (by omega) (by simp; omega) ?_; intro l2 w3 own3 hg3 hnil3 hat3; clear hi0 hz0 hz1 hz2; obtain ⟨lad2, lcp2, rfl⟩ := owns_slice own3; have hB3 := Below.grown (B := wr.heap.size) (a := wr) (hB2.alloc sz2 _) hg3 (by simp; omega) (fun k hk => (own2.lt k hk).1); have px3 := px.below hB3; obtain ⟨u0, u1, u2, u3, u4⟩ := px3.facts; have kq3 := Below.cellv hB3 kq))
              | (at_builtin; go_loud (obtain ⟨i0, hi0, hz0, hz1, hz2⟩ := info_parts Tryz.infoStrR; refine wpList_copy rfl _ _ 22 rfl 9 i0 _ 1 16 Tryz.underlying22 hi0 hz0 hz1 hz2 rfl (by decide) rfl sv bs.length (strsV bs) rfl (row_below hS hBw) (fun u hu => by simp [strsV] at hu; obtain ⟨b, _, rfl⟩ := hu; rfl) (by unfold maxLen; omega) (by omega) ?_; intro l1 w2 own2 hg2; clear hi0 hz0 hz1 hz2; obtain ⟨lad, lcp, rfl⟩ := owns_slice own2; have hB2 := below_none hg2; have px2 := px.below hB2; obtain ⟨t0, t1, t2, t3, t4⟩ := px2.facts; have kq2 := Below.cellv hB2 kq; have sz2 := hB2.size; have ne2 := World.new_ne w2 _ t0; have ne3 := World.new_ne w2 _ kq2)))
            go_roundg (js.length - (q + 1))
            case measure => omega
            case rel => exact ⟨q + 1, rfl, by go_num, by omega, (hbw.trans (hB3.mono (by have := hbw.size; omega))).trans (hb5.mono (by have := hB3.size; have := hbw.size; omega)), HR3.out⟩
          | some x =>
            obtain ⟨oc, op2⟩ := x
            have HR3 : Aside (RES = some (oc, op2)) := by show _ = _; rw [HR2, hO]; rfl
            have hoc : oc ≠ 0 := nmE_code _ _ _ _ _ hO
            have HR2x := HR2
            clear HR2
            have hO1 : nmE ((fns.take many).map sigOf) (namesR (bs ++ [ss])) ks[q] = some (oc, op2) := by rw [← hO, hcond]; simp [namesR]
            have OLEM : ∀ {r : Ending}, ((nmE ((fns.take many).map sigOf) (namesR (bs ++ [ss])) ks[q] = none ∧ r = .returned (.tuple #[.int .i64 0, .int .i64 0])) ∨ ∃ c p : Nat, nmE ((fns.take many).map sigOf) (namesR (bs ++ [ss])) ks[q] = some (c, p) ∧ c ≠ 0 ∧ r = .returned (.tuple #[.int .i64 (c : Int), .int .i64 (p : Int)])) → r = .returned (.tuple #[.int .i64 (oc : Int), .int .i64 (op2 : Int)]) := by
              intro r hr
              rw [hO1] at hr
              rcases hr with ⟨g1, g2⟩ | ⟨c, p, g1, g2, g3⟩
              · cases g1
              · cases g1; exact g3
            clear hO hcond HR2x
            go_wp2_with (first
              | (go_at_call 105; go_loud (refine (IH ks[q] jq _ (bs ++ [ss]) w3 lo many (wr.heap.size ≤ ·) (by omega) hwx ((h.below hBw).below hB3) (hrx.map (fun _ _ _ h => h) (Nat.le_refl _) (fun _ _ _ hh => row_below (row_below hh hBw) hB3)) (by have := RowAt.of_owns own3; simpa [strsV] using this) (by first | omega | (simp; omega)) hm).mono ?_; rintro r w5 ⟨hb5, hO5⟩; obtain rfl := OLEM hO5))
              | (at_builtin; go_loud (obtain ⟨i0, hi0, hz0, hz1, hz2⟩ := info_parts Tryz.infoStrR; refine wpList_append_own_at _ rfl _ _ 22 rfl wr.heap.size 9 i0 _ 1 16 Tryz.underlying22 hi0 hz0 hz1 hz2 rfl (by decide) _ _ _ rfl (own2.alloc _) ⟨w2.heap.size, 0, none⟩ 1 1 [.string ss] rfl rfl (cell_one_new _ _ _) (fun x hx => by simp at hx; subst hx; rfl) (by unfold maxLen; omega) (by omega) (by simp; omega) ?_; intro l2 w3 own3 hg3 hnil3 hat3; clear hi0 hz0 hz1 hz2; obtain ⟨lad2, lcp2, rfl⟩ := owns_slice own3; have hB3 := Below.grown (B := wr.heap.size) (a := wr) (hB2.alloc sz2 _) hg3 (by simp; omega) (fun k hk => (own2.lt k hk).1); have px3 := px.below hB3; obtain ⟨u0, u1, u2, u3, u4⟩ := px3.facts; have kq3 := Below.cellv hB3 kq))
              | (at_builtin; go_loud (obtain ⟨i0, hi0, hz0, hz1, hz2⟩ := info_parts Tryz.infoStrR; refine wpList_copy rfl _ _ 22 rfl 9 i0 _ 1 16 Tryz.underlying22 hi0 hz0 hz1 hz2 rfl (by decide) rfl sv bs.length (strsV bs) rfl (row_below hS hBw) (fun u hu => by simp [strsV] at hu; obtain ⟨b, _, rfl⟩ := hu; rfl) (by unfold maxLen; omega) (by omega) ?_; intro l1 w2 own2 hg2; clear hi0 hz0 hz1 hz2; obtain ⟨lad, lcp, rfl⟩ := owns_slice own2; have hB2 := below_none hg2; have px2 := px.below hB2; obtain ⟨t0, t1, t2, t3, t4⟩ := px2.facts; have kq2 := Below.cellv hB2 kq; have sz2 := hB2.size; have ne2 := World.new_ne w2 _ t0; have ne3 := World.new_ne w2 _ kq2)))
            go_ret2
            exact ⟨(hBw.trans (hB3.mono (by omega))).trans (hb5.mono (by have := hB3.size; omega)), Or.inr ⟨oc, op2, HR3.out, hoc, rfl⟩⟩
        · have hcond : (if (op.data.toList == [108, 101, 116] && q == 1) then namesR bs ++ [ss.data.toList] else namesR bs) = namesR bs := by rw [show (q == 1) = false by simpa using hq1]; simp
          have hq1b : (((q : Nat) : Int) == 1) = false := beq_no (by omega)
          cases hO : nmE ((fns.take many).map sigOf) (if (op.data.toList == [108, 101, 116] && q == 1) then namesR bs ++ [ss.data.toList] else namesR bs) ks[q] with
          | none =>
            have HR3 : Aside (RES = nmK ((fns.take many).map sigOf) (namesR bs) op.data.toList ss.data.toList (q + 1) (ks.drop (q + 1))) := by show _ = _; rw [HR2, hO]; rfl
            have HR2x := HR2
            clear HR2
            have hO1 : nmE ((fns.take many).map sigOf) (namesR bs) ks[q] = none := by rw [← hO, hcond]
            have OLEM : ∀ {r : Ending}, ((nmE ((fns.take many).map sigOf) (namesR bs) ks[q] = none ∧ r = .returned (.tuple #[.int .i64 0, .int .i64 0])) ∨ ∃ c p : Nat, nmE ((fns.take many).map sigOf) (namesR bs) ks[q] = some (c, p) ∧ c ≠ 0 ∧ r = .returned (.tuple #[.int .i64 (c : Int), .int .i64 (p : Int)])) → r = .returned (.tuple #[.int .i64 0, .int .i64 0]) := by
              intro r hr
              rw [hO1] at hr
              rcases hr with ⟨g1, g2⟩ | ⟨c, p, g1, g2, g3⟩
              · exact g2
              · cases g1
            clear hO hcond HR2x
            go_wp2_with (first
              | (go_at_call 105; go_loud (refine (IH ks[q] jq _ bs w2 lo many (wr.heap.size ≤ ·) (by omega) hwx ((h.below hBw).below hB2) (hrx.map (fun _ _ _ h => h) (Nat.le_refl _) (fun _ _ _ hh => row_below (row_below hh hBw) hB2)) (RowAt.of_owns own2) (by first | omega | (simp; omega)) hm).mono ?_; rintro r w5 ⟨hb5, hO5⟩; obtain rfl := OLEM hO5))
              | (at_builtin; go_loud (obtain ⟨i0, hi0, hz0, hz1, hz2⟩ := info_parts Tryz.infoStrR; refine wpList_copy rfl _ _ 22 rfl 9 i0 _ 1 16 Tryz.underlying22 hi0 hz0 hz1 hz2 rfl (by decide) rfl sv bs.length (strsV bs) rfl (row_below hS hBw) (fun u hu => by simp [strsV] at hu; obtain ⟨b, _, rfl⟩ := hu; rfl) (by unfold maxLen; omega) (by omega) ?_; intro l1 w2 own2 hg2; clear hi0 hz0 hz1 hz2; obtain ⟨lad, lcp, rfl⟩ := owns_slice own2; have hB2 := below_none hg2; have px2 := px.below hB2; obtain ⟨t0, t1, t2, t3, t4⟩ := px2.facts; have kq2 := Below.cellv hB2 kq; have sz2 := hB2.size; have ne2 := World.new_ne w2 _ t0; have ne3 := World.new_ne w2 _ kq2)))
            go_roundg (js.length - (q + 1))
            case measure => omega
            case rel => exact ⟨q + 1, rfl, by go_num, by omega, (hbw.trans (hB2.mono (by have := hbw.size; omega))).trans (hb5.mono (by have := hB2.size; have := hbw.size; omega)), HR3.out⟩
          | some x =>
            obtain ⟨oc, op2⟩ := x
            have HR3 : Aside (RES = some (oc, op2)) := by show _ = _; rw [HR2, hO]; rfl
            have hoc : oc ≠ 0 := nmE_code _ _ _ _ _ hO
            have HR2x := HR2
            clear HR2
            have hO1 : nmE ((fns.take many).map sigOf) (namesR bs) ks[q] = some (oc, op2) := by rw [← hO, hcond]
            have OLEM : ∀ {r : Ending}, ((nmE ((fns.take many).map sigOf) (namesR bs) ks[q] = none ∧ r = .returned (.tuple #[.int .i64 0, .int .i64 0])) ∨ ∃ c p : Nat, nmE ((fns.take many).map sigOf) (namesR bs) ks[q] = some (c, p) ∧ c ≠ 0 ∧ r = .returned (.tuple #[.int .i64 (c : Int), .int .i64 (p : Int)])) → r = .returned (.tuple #[.int .i64 (oc : Int), .int .i64 (op2 : Int)]) := by
              intro r hr
              rw [hO1] at hr
              rcases hr with ⟨g1, g2⟩ | ⟨c, p, g1, g2, g3⟩
              · cases g1
              · cases g1; exact g3
            clear hO hcond HR2x
            go_wp2_with (first
              | (go_at_call 105; go_loud (refine (IH ks[q] jq _ bs w2 lo many (wr.heap.size ≤ ·) (by omega) hwx ((h.below hBw).below hB2) (hrx.map (fun _ _ _ h => h) (Nat.le_refl _) (fun _ _ _ hh => row_below (row_below hh hBw) hB2)) (RowAt.of_owns own2) (by first | omega | (simp; omega)) hm).mono ?_; rintro r w5 ⟨hb5, hO5⟩; obtain rfl := OLEM hO5))
              | (at_builtin; go_loud (obtain ⟨i0, hi0, hz0, hz1, hz2⟩ := info_parts Tryz.infoStrR; refine wpList_copy rfl _ _ 22 rfl 9 i0 _ 1 16 Tryz.underlying22 hi0 hz0 hz1 hz2 rfl (by decide) rfl sv bs.length (strsV bs) rfl (row_below hS hBw) (fun u hu => by simp [strsV] at hu; obtain ⟨b, _, rfl⟩ := hu; rfl) (by unfold maxLen; omega) (by omega) ?_; intro l1 w2 own2 hg2; clear hi0 hz0 hz1 hz2; obtain ⟨lad, lcp, rfl⟩ := owns_slice own2; have hB2 := below_none hg2; have px2 := px.below hB2; obtain ⟨t0, t1, t2, t3, t4⟩ := px2.facts; have kq2 := Below.cellv hB2 kq; have sz2 := hB2.size; have ne2 := World.new_ne w2 _ t0; have ne3 := World.new_ne w2 _ kq2)))
            go_ret2
            exact ⟨(hBw.trans (hB2.mono (by omega))).trans (hb5.mono (by have := hB2.size; omega)), Or.inr ⟨oc, op2, HR3.out, hoc, rfl⟩⟩
    · go_wp2
      go_ret2
      refine ⟨hBw, Or.inl ⟨?_, rfl⟩⟩
      rw [hR.out, List.drop_of_length_le (by have := hjl.out; omega), nmK]
set_option maxRecDepth 8000 in
set_option maxHeartbeats 4000000 in
theorem names_call_call (h : PM w rb fv pv fs ps fns) (i : Nat) (hi : i < ps.length) (sv : Value) (many : Nat) (hm : many ≤ fs.length) (q1 : ((ps[i]'hi).op.toList == [97]) = false) (q2 : ((ps[i]'hi).op.toList == [99, 97, 108, 108]) = true) (_q3 : ((ps[i]'hi).op.toList == [109, 97, 112]) = false) (q4 : ((ps[i]'hi).op.toList == [108, 101, 116]) = false) (kad : Option Addr) (kcp : Nat) (bs : List ByteArray) (D : Nat → Prop) (hS : RowAt w D 9 1 sv bs.length (strsV bs)) (ks : List Ex) (js : List Nat) (hkv : (ps[i]'hi).kv = .slice kad js.length kcp) (lo n : Nat) (hjs : RowAt w (fun _ => True) 3 1 (ps[i]'hi).kv js.length (kidsV js)) (hks : RepPs w (fun _ => True) ps lo ks js) (hwf : WfEs ks) (hsz : szEs ks ≤ n + 1) (hbs : bs.length + szEs ks + 1 ≤ 100000) (IH : NamDo rb fv pv fs ps fns n) (j : Nat) (hj : j < fs.length) (hfound : ∀ r, FindIs fs (ps[i]'hi).s.toList many r → r = (j : Int)) (aad : Option Addr) (acp : Nat) (hav : (fs[j]'hj).pv = .slice aad js.length acp) :
    Calls Tryz.prog 105 #[.pointer (some ⟨rb, 5, none⟩), .int .i64 ((i : Nat) : Int), sv, .int .i64 ((many : Nat) : Int)] w (nmPost (nmK ((fns.take many).map sigOf) (namesR bs) (ps[i]'hi).op.data.toList (ps[i]'hi).s.data.toList 0 ks) w) := by
  have c5 := h.c5
  have c6 := h.c6
  have hp := h.hp
  obtain ⟨pg, pc, hpv, hc1, hc2, a0, a1, a2, a3, a4⟩ := h.part i hi
  unfold maxLen at hc2
  have hpg := cell_lt a0
  have hrb := cell_lt c5
  have hne1 := World.new_ne w _ a0
  have hne2 := World.new_ne w _ c5
  have cfi := find_any (h.below (below1 w (partO (ps[i]'hi).op (ps[i]'hi).n (ps[i]'hi).s (ps[i]'hi).at_ (ps[i]'hi).kv))) (ps[i]'hi).s many hm
  obtain ⟨fg, fc, hfv, hd1, hd2, b0, b1, b2, b3, b4⟩ := h.fun j hj
  unfold maxLen at hd2
  have hne3 := World.new_ne w _ b0
  have hff := h.hf
  rw [hav] at b2
  clear b0 b1 b3 b4 hav
  generalize (ps[i]'hi).op = op at *
  generalize (ps[i]'hi).n = nn at *
  generalize (ps[i]'hi).s = ss at *
  generalize (ps[i]'hi).at_ = pp at *
  rw [hkv] at hjs
  generalize (ps[i]'hi).kv = kv at *
  subst hkv
  generalize hRES : nmK ((fns.take many).map sigOf) (namesR bs) op.data.toList ss.data.toList 0 ks = RES at *
  subst hfv
  have b2p := alloc_cell (o := partO op nn ss pp (.slice kad js.length kcp)) b2
  subst hpv
  go_enter Tryz.func105, Tryz.ntmps105
  go_wp2_with (go_at_call 103; refine cfi.mono ?_; rintro r w2 ⟨⟨fr, rfl, hfr⟩, rfl⟩; obtain rfl := hfound _ hfr; clear hfr)
  go_region
  all_goals go_wp2
  have hjl : Aside (js.length = ks.length) := hks.length
  go_loopg [13] js.length (fun gh iv wr => ∃ q : Nat, gh = js.length - q ∧ iv = .int .i64 ((q : Nat) : Int) ∧ q ≤ js.length ∧ Below (w.alloc (partO op nn ss pp (.slice kad js.length kcp))).heap.size (w.alloc (partO op nn ss pp (.slice kad js.length kcp))) wr ∧ Aside (RES = nmK ((fns.take many).map sigOf) (namesR bs) op.data.toList ss.data.toList q (ks.drop q)))
  case atStart => exact ⟨0, by omega, rfl, by omega, (by first | exact (Below.refl _ _).drew | exact drawnB (Below.refl _ _) | exact Below.refl _ _), by show RES = _; rw [← hRES]; rfl⟩
  case round =>
    obtain ⟨q, rfl, rfl, hq, hbw, hR⟩ := hrel
    have hBw : Below w.heap.size w wr := (below1 w (partO op nn ss pp (.slice kad js.length kcp))).trans (hbw.mono (by simp))
    have px : Px wr w.heap.size ⟨op, nn, ss, pp, .slice kad js.length kcp⟩ := (Px.new w ⟨op, nn, ss, pp, .slice kad js.length kcp⟩ rfl).below hbw
    obtain ⟨o0, o1, o2, o3, o4⟩ := px.facts
    have hzw := hBw.size
    by_cases hlt : q < js.length
    · obtain ⟨kg, kc, hkv2, _, hk1, hk2, hkcell⟩ := hjs.cell (by omega)
      simp only [Value.slice.injEq] at hkv2
      obtain ⟨rfl, _, rfl⟩ := hkv2
      unfold maxLen at hk2
      have kq : wr.cell? ⟨kg, q, none⟩ = some (.int .i64 ((js[q] : Nat) : Int)) := Below.cellv hBw (by rw [hkcell q (by omega)]; simp [kidsV, hlt])
      have hkx : q < ks.length := by have := hjl.out; omega
      have hrx : RepP w (fun _ => True) ps lo ks[q] js[q] := RepPs_at hks q hkx hlt
      have hwx := WfEs_at ks q hkx hwf
      have hsx := szEs_at ks q hkx
      have HR2 : RES = orE (nmE ((fns.take many).map sigOf) (if (op.data.toList == [108, 101, 116] && q == 1) then namesR bs ++ [ss.data.toList] else namesR bs) ks[q]) (nmK ((fns.take many).map sigOf) (namesR bs) op.data.toList ss.data.toList (q + 1) (ks.drop (q + 1))) := by
        rw [hR.out, nmK_drop _ _ _ _ _ _ hkx]
      clear hR hkcell
      generalize js[q] = jq at *
      have hcond : (if (op.data.toList == [108, 101, 116] && q == 1) then namesR bs ++ [ss.data.toList] else namesR bs) = namesR bs := by rw [← ByteArray.toList_eq, q4]; rfl
      cases hO : nmE ((fns.take many).map sigOf) (if (op.data.toList == [108, 101, 116] && q == 1) then namesR bs ++ [ss.data.toList] else namesR bs) ks[q] with
      | none =>
        have HR3 : Aside (RES = nmK ((fns.take many).map sigOf) (namesR bs) op.data.toList ss.data.toList (q + 1) (ks.drop (q + 1))) := by show _ = _; rw [HR2, hO]; rfl
        have HR2x := HR2
        clear HR2
        have hO1 : nmE ((fns.take many).map sigOf) (namesR bs) ks[q] = none := by rw [← hO, hcond]
        have OLEM : ∀ {r : Ending}, ((nmE ((fns.take many).map sigOf) (namesR bs) ks[q] = none ∧ r = .returned (.tuple #[.int .i64 0, .int .i64 0])) ∨ ∃ c p : Nat, nmE ((fns.take many).map sigOf) (namesR bs) ks[q] = some (c, p) ∧ c ≠ 0 ∧ r = .returned (.tuple #[.int .i64 (c : Int), .int .i64 (p : Int)])) → r = .returned (.tuple #[.int .i64 0, .int .i64 0]) := by
          intro r hr
          rw [hO1] at hr
          rcases hr with ⟨g1, g2⟩ | ⟨c, p, g1, g2, g3⟩
          · exact g2
          · cases g1
        clear hO hcond HR2x
        go_wp2_with (first
          | (go_at_call 105; go_loud (refine (IH ks[q] jq _ bs w2 lo many (wr.heap.size ≤ ·) (by omega) hwx ((h.below hBw).below hB2) (hrx.map (fun _ _ _ h => h) (Nat.le_refl _) (fun _ _ _ hh => row_below (row_below hh hBw) hB2)) (RowAt.of_owns own2) (by first | omega | (simp; omega)) hm).mono ?_; rintro r w5 ⟨hb5, hO5⟩; obtain rfl := OLEM hO5))
          | (at_builtin; go_loud (obtain ⟨i0, hi0, hz0, hz1, hz2⟩ := info_parts Tryz.infoStrR; refine wpList_copy rfl _ _ 22 rfl 9 i0 _ 1 16 Tryz.underlying22 hi0 hz0 hz1 hz2 rfl (by decide) rfl sv bs.length (strsV bs) rfl (row_below hS hBw) (fun u hu => by simp [strsV] at hu; obtain ⟨b, _, rfl⟩ := hu; rfl) (by unfold maxLen; omega) (by omega) ?_; intro l1 w2 own2 hg2; clear hi0 hz0 hz1 hz2; obtain ⟨lad, lcp, rfl⟩ := owns_slice own2; have hB2 := below_none hg2; have px2 := px.below hB2; obtain ⟨t0, t1, t2, t3, t4⟩ := px2.facts; have kq2 := Below.cellv hB2 kq; have sz2 := hB2.size; have ne2 := World.new_ne w2 _ t0; have ne3 := World.new_ne w2 _ kq2)))
        go_roundg (js.length - (q + 1))
        case measure => omega
        case rel => exact ⟨q + 1, rfl, by go_num, by omega, (hbw.trans (hB2.mono (by have := hbw.size; omega))).trans (hb5.mono (by have := hB2.size; have := hbw.size; omega)), HR3.out⟩
      | some x =>
        obtain ⟨oc, op2⟩ := x
        have HR3 : Aside (RES = some (oc, op2)) := by show _ = _; rw [HR2, hO]; rfl
        have hoc : oc ≠ 0 := nmE_code _ _ _ _ _ hO
        have HR2x := HR2
        clear HR2
        have hO1 : nmE ((fns.take many).map sigOf) (namesR bs) ks[q] = some (oc, op2) := by rw [← hO, hcond]
        have OLEM : ∀ {r : Ending}, ((nmE ((fns.take many).map sigOf) (namesR bs) ks[q] = none ∧ r = .returned (.tuple #[.int .i64 0, .int .i64 0])) ∨ ∃ c p : Nat, nmE ((fns.take many).map sigOf) (namesR bs) ks[q] = some (c, p) ∧ c ≠ 0 ∧ r = .returned (.tuple #[.int .i64 (c : Int), .int .i64 (p : Int)])) → r = .returned (.tuple #[.int .i64 (oc : Int), .int .i64 (op2 : Int)]) := by
          intro r hr
          rw [hO1] at hr
          rcases hr with ⟨g1, g2⟩ | ⟨c, p, g1, g2, g3⟩
          · cases g1
          · cases g1; exact g3
        clear hO hcond HR2x
        go_wp2_with (first
          | (go_at_call 105; go_loud (refine (IH ks[q] jq _ bs w2 lo many (wr.heap.size ≤ ·) (by omega) hwx ((h.below hBw).below hB2) (hrx.map (fun _ _ _ h => h) (Nat.le_refl _) (fun _ _ _ hh => row_below (row_below hh hBw) hB2)) (RowAt.of_owns own2) (by first | omega | (simp; omega)) hm).mono ?_; rintro r w5 ⟨hb5, hO5⟩; obtain rfl := OLEM hO5))
          | (at_builtin; go_loud (obtain ⟨i0, hi0, hz0, hz1, hz2⟩ := info_parts Tryz.infoStrR; refine wpList_copy rfl _ _ 22 rfl 9 i0 _ 1 16 Tryz.underlying22 hi0 hz0 hz1 hz2 rfl (by decide) rfl sv bs.length (strsV bs) rfl (row_below hS hBw) (fun u hu => by simp [strsV] at hu; obtain ⟨b, _, rfl⟩ := hu; rfl) (by unfold maxLen; omega) (by omega) ?_; intro l1 w2 own2 hg2; clear hi0 hz0 hz1 hz2; obtain ⟨lad, lcp, rfl⟩ := owns_slice own2; have hB2 := below_none hg2; have px2 := px.below hB2; obtain ⟨t0, t1, t2, t3, t4⟩ := px2.facts; have kq2 := Below.cellv hB2 kq; have sz2 := hB2.size; have ne2 := World.new_ne w2 _ t0; have ne3 := World.new_ne w2 _ kq2)))
        go_ret2
        exact ⟨(hBw.trans (hB2.mono (by omega))).trans (hb5.mono (by have := hB2.size; omega)), Or.inr ⟨oc, op2, HR3.out, hoc, rfl⟩⟩
    · go_wp2
      go_ret2
      refine ⟨hBw, Or.inl ⟨?_, rfl⟩⟩
      rw [hR.out, List.drop_of_length_le (by have := hjl.out; omega), nmK]
set_option maxRecDepth 8000 in
set_option maxHeartbeats 4000000 in
theorem names_call_map (h : PM w rb fv pv fs ps fns) (i : Nat) (hi : i < ps.length) (sv : Value) (many : Nat) (hm : many ≤ fs.length) (q1 : ((ps[i]'hi).op.toList == [97]) = false) (q2 : ((ps[i]'hi).op.toList == [99, 97, 108, 108]) = false) (q3 : ((ps[i]'hi).op.toList == [109, 97, 112]) = true) (q4 : ((ps[i]'hi).op.toList == [108, 101, 116]) = false) (kad : Option Addr) (kcp : Nat) (bs : List ByteArray) (D : Nat → Prop) (hS : RowAt w D 9 1 sv bs.length (strsV bs)) (ks : List Ex) (js : List Nat) (hkv : (ps[i]'hi).kv = .slice kad js.length kcp) (lo n : Nat) (hjs : RowAt w (fun _ => True) 3 1 (ps[i]'hi).kv js.length (kidsV js)) (hks : RepPs w (fun _ => True) ps lo ks js) (hwf : WfEs ks) (hsz : szEs ks ≤ n + 1) (hbs : bs.length + szEs ks + 1 ≤ 100000) (IH : NamDo rb fv pv fs ps fns n) (j : Nat) (hj : j < fs.length) (hfound : ∀ r, FindIs fs (ps[i]'hi).s.toList many r → r = (j : Int)) (aad : Option Addr) (acp : Nat) (hav : (fs[j]'hj).pv = .slice aad js.length acp) :
    Calls Tryz.prog 105 #[.pointer (some ⟨rb, 5, none⟩), .int .i64 ((i : Nat) : Int), sv, .int .i64 ((many : Nat) : Int)] w (nmPost (nmK ((fns.take many).map sigOf) (namesR bs) (ps[i]'hi).op.data.toList (ps[i]'hi).s.data.toList 0 ks) w) := by
  have c5 := h.c5
  have c6 := h.c6
  have hp := h.hp
  obtain ⟨pg, pc, hpv, hc1, hc2, a0, a1, a2, a3, a4⟩ := h.part i hi
  unfold maxLen at hc2
  have hpg := cell_lt a0
  have hrb := cell_lt c5
  have hne1 := World.new_ne w _ a0
  have hne2 := World.new_ne w _ c5
  have cfi := find_any (h.below (below1 w (partO (ps[i]'hi).op (ps[i]'hi).n (ps[i]'hi).s (ps[i]'hi).at_ (ps[i]'hi).kv))) (ps[i]'hi).s many hm
  obtain ⟨fg, fc, hfv, hd1, hd2, b0, b1, b2, b3, b4⟩ := h.fun j hj
  unfold maxLen at hd2
  have hne3 := World.new_ne w _ b0
  have hff := h.hf
  rw [hav] at b2
  clear b0 b1 b3 b4 hav
  generalize (ps[i]'hi).op = op at *
  generalize (ps[i]'hi).n = nn at *
  generalize (ps[i]'hi).s = ss at *
  generalize (ps[i]'hi).at_ = pp at *
  rw [hkv] at hjs
  generalize (ps[i]'hi).kv = kv at *
  subst hkv
  generalize hRES : nmK ((fns.take many).map sigOf) (namesR bs) op.data.toList ss.data.toList 0 ks = RES at *
  subst hfv
  have b2p := alloc_cell (o := partO op nn ss pp (.slice kad js.length kcp)) b2
  subst hpv
  go_enter Tryz.func105, Tryz.ntmps105
  go_wp2_with (go_at_call 103; refine cfi.mono ?_; rintro r w2 ⟨⟨fr, rfl, hfr⟩, rfl⟩; obtain rfl := hfound _ hfr; clear hfr)
  go_region
  all_goals go_wp2
  have hjl : Aside (js.length = ks.length) := hks.length
  go_loopg [13] js.length (fun gh iv wr => ∃ q : Nat, gh = js.length - q ∧ iv = .int .i64 ((q : Nat) : Int) ∧ q ≤ js.length ∧ Below (w.alloc (partO op nn ss pp (.slice kad js.length kcp))).heap.size (w.alloc (partO op nn ss pp (.slice kad js.length kcp))) wr ∧ Aside (RES = nmK ((fns.take many).map sigOf) (namesR bs) op.data.toList ss.data.toList q (ks.drop q)))
  case atStart => exact ⟨0, by omega, rfl, by omega, (by first | exact (Below.refl _ _).drew | exact drawnB (Below.refl _ _) | exact Below.refl _ _), by show RES = _; rw [← hRES]; rfl⟩
  case round =>
    obtain ⟨q, rfl, rfl, hq, hbw, hR⟩ := hrel
    have hBw : Below w.heap.size w wr := (below1 w (partO op nn ss pp (.slice kad js.length kcp))).trans (hbw.mono (by simp))
    have px : Px wr w.heap.size ⟨op, nn, ss, pp, .slice kad js.length kcp⟩ := (Px.new w ⟨op, nn, ss, pp, .slice kad js.length kcp⟩ rfl).below hbw
    obtain ⟨o0, o1, o2, o3, o4⟩ := px.facts
    have hzw := hBw.size
    by_cases hlt : q < js.length
    · obtain ⟨kg, kc, hkv2, _, hk1, hk2, hkcell⟩ := hjs.cell (by omega)
      simp only [Value.slice.injEq] at hkv2
      obtain ⟨rfl, _, rfl⟩ := hkv2
      unfold maxLen at hk2
      have kq : wr.cell? ⟨kg, q, none⟩ = some (.int .i64 ((js[q] : Nat) : Int)) := Below.cellv hBw (by rw [hkcell q (by omega)]; simp [kidsV, hlt])
      have hkx : q < ks.length := by have := hjl.out; omega
      have hrx : RepP w (fun _ => True) ps lo ks[q] js[q] := RepPs_at hks q hkx hlt
      have hwx := WfEs_at ks q hkx hwf
      have hsx := szEs_at ks q hkx
      have HR2 : RES = orE (nmE ((fns.take many).map sigOf) (if (op.data.toList == [108, 101, 116] && q == 1) then namesR bs ++ [ss.data.toList] else namesR bs) ks[q]) (nmK ((fns.take many).map sigOf) (namesR bs) op.data.toList ss.data.toList (q + 1) (ks.drop (q + 1))) := by
        rw [hR.out, nmK_drop _ _ _ _ _ _ hkx]
      clear hR hkcell
      generalize js[q] = jq at *
      have hcond : (if (op.data.toList == [108, 101, 116] && q == 1) then namesR bs ++ [ss.data.toList] else namesR bs) = namesR bs := by rw [← ByteArray.toList_eq, q4]; rfl
      cases hO : nmE ((fns.take many).map sigOf) (if (op.data.toList == [108, 101, 116] && q == 1) then namesR bs ++ [ss.data.toList] else namesR bs) ks[q] with
      | none =>
        have HR3 : Aside (RES = nmK ((fns.take many).map sigOf) (namesR bs) op.data.toList ss.data.toList (q + 1) (ks.drop (q + 1))) := by show _ = _; rw [HR2, hO]; rfl
        have HR2x := HR2
        clear HR2
        have hO1 : nmE ((fns.take many).map sigOf) (namesR bs) ks[q] = none := by rw [← hO, hcond]
        have OLEM : ∀ {r : Ending}, ((nmE ((fns.take many).map sigOf) (namesR bs) ks[q] = none ∧ r = .returned (.tuple #[.int .i64 0, .int .i64 0])) ∨ ∃ c p : Nat, nmE ((fns.take many).map sigOf) (namesR bs) ks[q] = some (c, p) ∧ c ≠ 0 ∧ r = .returned (.tuple #[.int .i64 (c : Int), .int .i64 (p : Int)])) → r = .returned (.tuple #[.int .i64 0, .int .i64 0]) := by
          intro r hr
          rw [hO1] at hr
          rcases hr with ⟨g1, g2⟩ | ⟨c, p, g1, g2, g3⟩
          · exact g2
          · cases g1
        clear hO hcond HR2x
        go_wp2_with (first
          | (go_at_call 105; go_loud (refine (IH ks[q] jq _ bs w2 lo many (wr.heap.size ≤ ·) (by omega) hwx ((h.below hBw).below hB2) (hrx.map (fun _ _ _ h => h) (Nat.le_refl _) (fun _ _ _ hh => row_below (row_below hh hBw) hB2)) (RowAt.of_owns own2) (by first | omega | (simp; omega)) hm).mono ?_; rintro r w5 ⟨hb5, hO5⟩; obtain rfl := OLEM hO5))
          | (at_builtin; go_loud (obtain ⟨i0, hi0, hz0, hz1, hz2⟩ := info_parts Tryz.infoStrR; refine wpList_copy rfl _ _ 22 rfl 9 i0 _ 1 16 Tryz.underlying22 hi0 hz0 hz1 hz2 rfl (by decide) rfl sv bs.length (strsV bs) rfl (row_below hS hBw) (fun u hu => by simp [strsV] at hu; obtain ⟨b, _, rfl⟩ := hu; rfl) (by unfold maxLen; omega) (by omega) ?_; intro l1 w2 own2 hg2; clear hi0 hz0 hz1 hz2; obtain ⟨lad, lcp, rfl⟩ := owns_slice own2; have hB2 := below_none hg2; have px2 := px.below hB2; obtain ⟨t0, t1, t2, t3, t4⟩ := px2.facts; have kq2 := Below.cellv hB2 kq; have sz2 := hB2.size; have ne2 := World.new_ne w2 _ t0; have ne3 := World.new_ne w2 _ kq2)))
        go_roundg (js.length - (q + 1))
        case measure => omega
        case rel => exact ⟨q + 1, rfl, by go_num, by omega, (hbw.trans (hB2.mono (by have := hbw.size; omega))).trans (hb5.mono (by have := hB2.size; have := hbw.size; omega)), HR3.out⟩
      | some x =>
        obtain ⟨oc, op2⟩ := x
        have HR3 : Aside (RES = some (oc, op2)) := by show _ = _; rw [HR2, hO]; rfl
        have hoc : oc ≠ 0 := nmE_code _ _ _ _ _ hO
        have HR2x := HR2
        clear HR2
        have hO1 : nmE ((fns.take many).map sigOf) (namesR bs) ks[q] = some (oc, op2) := by rw [← hO, hcond]
        have OLEM : ∀ {r : Ending}, ((nmE ((fns.take many).map sigOf) (namesR bs) ks[q] = none ∧ r = .returned (.tuple #[.int .i64 0, .int .i64 0])) ∨ ∃ c p : Nat, nmE ((fns.take many).map sigOf) (namesR bs) ks[q] = some (c, p) ∧ c ≠ 0 ∧ r = .returned (.tuple #[.int .i64 (c : Int), .int .i64 (p : Int)])) → r = .returned (.tuple #[.int .i64 (oc : Int), .int .i64 (op2 : Int)]) := by
          intro r hr
          rw [hO1] at hr
          rcases hr with ⟨g1, g2⟩ | ⟨c, p, g1, g2, g3⟩
          · cases g1
          · cases g1; exact g3
        clear hO hcond HR2x
        go_wp2_with (first
          | (go_at_call 105; go_loud (refine (IH ks[q] jq _ bs w2 lo many (wr.heap.size ≤ ·) (by omega) hwx ((h.below hBw).below hB2) (hrx.map (fun _ _ _ h => h) (Nat.le_refl _) (fun _ _ _ hh => row_below (row_below hh hBw) hB2)) (RowAt.of_owns own2) (by first | omega | (simp; omega)) hm).mono ?_; rintro r w5 ⟨hb5, hO5⟩; obtain rfl := OLEM hO5))
          | (at_builtin; go_loud (obtain ⟨i0, hi0, hz0, hz1, hz2⟩ := info_parts Tryz.infoStrR; refine wpList_copy rfl _ _ 22 rfl 9 i0 _ 1 16 Tryz.underlying22 hi0 hz0 hz1 hz2 rfl (by decide) rfl sv bs.length (strsV bs) rfl (row_below hS hBw) (fun u hu => by simp [strsV] at hu; obtain ⟨b, _, rfl⟩ := hu; rfl) (by unfold maxLen; omega) (by omega) ?_; intro l1 w2 own2 hg2; clear hi0 hz0 hz1 hz2; obtain ⟨lad, lcp, rfl⟩ := owns_slice own2; have hB2 := below_none hg2; have px2 := px.below hB2; obtain ⟨t0, t1, t2, t3, t4⟩ := px2.facts; have kq2 := Below.cellv hB2 kq; have sz2 := hB2.size; have ne2 := World.new_ne w2 _ t0; have ne3 := World.new_ne w2 _ kq2)))
        go_ret2
        exact ⟨(hBw.trans (hB2.mono (by omega))).trans (hb5.mono (by have := hB2.size; omega)), Or.inr ⟨oc, op2, HR3.out, hoc, rfl⟩⟩
    · go_wp2
      go_ret2
      refine ⟨hBw, Or.inl ⟨?_, rfl⟩⟩
      rw [hR.out, List.drop_of_length_le (by have := hjl.out; omega), nmK]
end
end Go.Proofs.YtdiefbahmcihlaaGreatDoor
