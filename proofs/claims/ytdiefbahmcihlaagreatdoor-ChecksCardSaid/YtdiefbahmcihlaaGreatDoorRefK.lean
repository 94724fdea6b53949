/-
  The reference: the program in memory; find, in.
-/
import Derived.Test.YtdiefbahmcihlaaGreatDoorRefJ0
import Derived.Deep.LoopGhost
namespace Go.Proofs.YtdiefbahmcihlaaGreatDoor
open Go.RowKit
attribute [local go_sem ↓] Go.wp_at_zero Go.wp_at_succ

/-- Functions that lie as they were read. -/
def FunsRep (w : World) (D : Nat → Prop) (ps : List PartV) : List FunV → List Fn → Prop
  | [], fns => fns = []
  | f :: r, fns => ∃ fn q, fns = fn :: q ∧ RepF w D ps fn f ∧ FunsRep w D ps r q
/-- The program in memory; nothing of it turns. -/
structure PM (w : World) (rb : Nat) (fv pv : Value) (fs : List FunV) (ps : List PartV) (fns : List Fn) : Prop where
  c5 : w.cell? ⟨rb, 5, none⟩ = some fv
  c6 : w.cell? ⟨rb, 6, none⟩ = some pv
  rf : RowAt w (fun _ => True) 215 5 fv fs.length (funCells fs)
  rq : RowAt w (fun _ => True) 319 5 pv ps.length (partCells ps)
  rep : FunsRep w (fun _ => True) ps fs fns
  hf : fs.length ≤ 3000
  hp : ps.length ≤ 3000
theorem RepF.below {w w' : World} {D : Nat → Prop} {ps : List PartV} {fn : Fn} {f : FunV} (h : RepF w D ps fn f) (hb : Below w.heap.size w w') : RepF w' D ps fn f := by
  obtain ⟨q1, q2, ⟨qs, ls, q3, q4, q5, q6⟩, q7⟩ := h
  exact ⟨q1, q2, ⟨qs, ls, q3, q4, row_below q5 hb, row_below q6 hb⟩, q7.map (fun _ _ _ h => h) (Nat.le_refl _) (fun _ _ _ h => row_below h hb)⟩
theorem FunsRep.below {w w' : World} {D : Nat → Prop} {ps : List PartV} (hb : Below w.heap.size w w') : ∀ {fs : List FunV} {fns : List Fn}, FunsRep w D ps fs fns → FunsRep w' D ps fs fns
  | [], fns, h => h
  | f :: r, fns, h => by
    obtain ⟨fn, q, h1, h2, h3⟩ := h
    exact ⟨fn, q, h1, h2.below hb, FunsRep.below hb h3⟩
theorem FunsRep.length {w : World} {D : Nat → Prop} {ps : List PartV} : ∀ {fs : List FunV} {fns : List Fn}, FunsRep w D ps fs fns → fs.length = fns.length
  | [], fns, h => by rw [show fns = [] from h]; rfl
  | f :: r, fns, h => by
    obtain ⟨fn, q, rfl, h2, h3⟩ := h
    simp [FunsRep.length h3]
theorem FunsRep.at {w : World} {D : Nat → Prop} {ps : List PartV} : ∀ {fs : List FunV} {fns : List Fn}, FunsRep w D ps fs fns → ∀ j (h1 : j < fs.length) (h2 : j < fns.length), RepF w D ps fns[j] fs[j]
  | [], fns, h, j, h1, h2 => by simp at h1
  | f :: r, fns, h, j, h1, h2 => by
    obtain ⟨fn, q, rfl, h3, h4⟩ := h
    cases j with
    | zero => exact h3
    | succ j => exact FunsRep.at h4 j (by simpa using h1) (by simpa using h2)
section
variable {w : World} {rb : Nat} {fv pv : Value} {fs : List FunV} {ps : List PartV} {fns : List Fn}
theorem PM.below {w' : World} (h : PM w rb fv pv fs ps fns) (hb : Below w.heap.size w w') : PM w' rb fv pv fs ps fns :=
  ⟨Below.cellv hb h.c5, Below.cellv hb h.c6, row_below h.rf hb, row_below h.rq hb, h.rep.below hb, h.hf, h.hp⟩
/-- The cells of the j-th function. -/
theorem PM.fun (h : PM w rb fv pv fs ps fns) (j : Nat) (hj : j < fs.length) : ∃ g c', fv = .slice (some ⟨g, 0, none⟩) fs.length c' ∧ fs.length ≤ c' ∧ c' ≤ maxLen ∧ w.cell? ⟨g, j * 5, none⟩ = some (.string (fs[j]'hj).name) ∧ w.cell? ⟨g, j * 5 + 1, none⟩ = some (.int .i64 (((fs[j]'hj).at_ : Nat) : Int)) ∧ w.cell? ⟨g, j * 5 + 2, none⟩ = some (fs[j]'hj).pv ∧ w.cell? ⟨g, j * 5 + 3, none⟩ = some (fs[j]'hj).lv ∧ w.cell? ⟨g, j * 5 + 4, none⟩ = some (.int .i64 (((fs[j]'hj).body : Nat) : Int)) := by
  obtain ⟨g, c', hv, _, h1, h2, hc⟩ := h.rf.cell (by omega)
  obtain ⟨a0, a1, a2, a3, a4⟩ := funCells_at fs j fs[j] (List.getElem?_eq_getElem hj)
  refine ⟨g, c', hv, h1, h2, ?_, ?_, ?_, ?_, ?_⟩
  · rw [hc _ (by omega)]; exact a0
  · rw [hc _ (by omega)]; exact a1
  · rw [hc _ (by omega)]; exact a2
  · rw [hc _ (by omega)]; exact a3
  · rw [hc _ (by omega)]; exact a4
theorem PM.part (h : PM w rb fv pv fs ps fns) (j : Nat) (hj : j < ps.length) : ∃ g c', pv = .slice (some ⟨g, 0, none⟩) ps.length c' ∧ ps.length ≤ c' ∧ c' ≤ maxLen ∧ w.cell? ⟨g, j * 5, none⟩ = some (.string (ps[j]'hj).op) ∧ w.cell? ⟨g, j * 5 + 1, none⟩ = some (.int .i64 (ps[j]'hj).n) ∧ w.cell? ⟨g, j * 5 + 2, none⟩ = some (.string (ps[j]'hj).s) ∧ w.cell? ⟨g, j * 5 + 3, none⟩ = some (.int .i64 (((ps[j]'hj).at_ : Nat) : Int)) ∧ w.cell? ⟨g, j * 5 + 4, none⟩ = some (ps[j]'hj).kv := by
  obtain ⟨g, c', hv, _, h1, h2, hc⟩ := h.rq.cell (by omega)
  obtain ⟨a0, a1, a2, a3, a4⟩ := partCells_at ps j ps[j] (List.getElem?_eq_getElem hj)
  refine ⟨g, c', hv, h1, h2, ?_, ?_, ?_, ?_, ?_⟩
  · rw [hc _ (by omega)]; exact a0
  · rw [hc _ (by omega)]; exact a1
  · rw [hc _ (by omega)]; exact a2
  · rw [hc _ (by omega)]; exact a3
  · rw [hc _ (by omega)]; exact a4
/-- The first function of a name. -/
def FindIs (fs : List FunV) (n : List UInt8) (many : Nat) (r : Int) : Prop :=
  (r = -1 ∧ ∀ j (hj : j < fs.length), j < many → (fs[j]'hj).name.toList ≠ n) ∨ (∃ (j : Nat) (hj : j < fs.length), j < many ∧ r = (j : Int) ∧ (fs[j]'hj).name.toList = n ∧ ∀ i (hi : i < fs.length), i < j → (fs[i]'hi).name.toList ≠ n)
set_option maxHeartbeats 1000000 in
theorem find_any (h : PM w rb fv pv fs ps fns) (nb : ByteArray) (many : Nat) (hm : many ≤ fs.length) :
    Calls Tryz.prog 103 #[.pointer (some ⟨rb, 5, none⟩), .string nb, .int .i64 ((many : Nat) : Int)] w fun e w' => (∃ r : Int, e = .returned (.int .i64 r) ∧ FindIs fs nb.toList many r) ∧ w' = w := by
  have c5 := h.c5
  have hf := h.hf
  go_enter Tryz.func103, Tryz.ntmps103
  go_wp2
  go_loop [7] (fun i => ∃ j : Nat, i = .int .i64 j ∧ j ≤ many ∧ Aside (∀ i (hi : i < fs.length), i < j → (fs[i]'hi).name.toList ≠ nb.toList)) (fun i => many - (intOf i).toNat)
  case atStart => exact ⟨0, rfl, by omega, fun i _ hi => absurd hi (by omega)⟩
  case round =>
    obtain ⟨j, rfl, hj, hall⟩ := hrel
    by_cases hlt : j < many
    · obtain ⟨g, c', rfl, hc1, hc2, a0, a1, a2, a3, a4⟩ := h.fun j (by omega)
      unfold maxLen at hc2
      have hjf : j < fs.length := by omega
      cases hq : ((fs[j]'hjf).name.toList == nb.toList)
      · generalize hnj : (fs[j]'hjf).name = nj at *
        go_wp2
        go_round
        case rel =>
          refine ⟨j + 1, by go_num, by omega, fun i hi h2 => ?_⟩
          by_cases e : i = j
          · subst e; rw [hnj]; simpa using hq
          · exact hall.out i hi (by omega)
        case measure => simp [intOf]; omega
      · generalize hnj : (fs[j]'hjf).name = nj at *
        go_wp2
        go_ret
        exact ⟨⟨_, rfl, Or.inr ⟨j, hjf, hlt, rfl, by rw [hnj]; simpa using hq, fun i hi h2 => hall.out i hi h2⟩⟩, rfl⟩
    · go_wp2
      go_ret
      exact ⟨⟨_, rfl, Or.inl ⟨rfl, fun i hi h2 => hall.out i hi (by omega)⟩⟩, rfl⟩
def hasS (bs : List ByteArray) (v : ByteArray) : Bool := bs.any fun b => b.toList == v.toList
set_option maxHeartbeats 1000000 in
theorem in_any (sv : Value) (bs : List ByteArray) (v : ByteArray) (w : World) (D : Nat → Prop) (h : RowAt w D 9 1 sv bs.length (strsV bs)) (hn : bs.length ≤ 100000) :
    Calls Tryz.prog 104 #[sv, .string v] w fun e w' => e = .returned (.bool (hasS bs v)) ∧ w' = w := by
  rcases h.2 with ⟨rfl, h0⟩ | ⟨g, cap, cur, rfl, hg, hh, hc, hm, hz, ht⟩
  · have : bs = [] := List.eq_nil_of_length_eq_zero h0
    subst this
    go_enter Tryz.func104, Tryz.ntmps104
    go_wp2
    go_loop [5] (fun i => i = .int .i64 0) (fun _ => 0)
    case atStart => rfl
    case round =>
      subst hrel
      go_wp2
      go_ret
      exact ⟨rfl, rfl⟩
  · unfold maxLen at hm
    have hcell : ∀ j (hj : j < bs.length), w.cell? ⟨g, j, none⟩ = some (.string bs[j]) := fun j hj => by
      have : w.cell? ⟨g, j, none⟩ = cur[j]? := by unfold World.cell?; rw [hh]; rfl
      rw [this, ← Array.getElem?_toList]
      have h2 : (cur.toList.take (bs.length * 1))[j]? = (strsV bs)[j]? := by rw [ht]
      rw [List.getElem?_take, if_pos (by omega)] at h2
      rw [h2]
      simp [strsV, hj]
    go_enter Tryz.func104, Tryz.ntmps104
    go_wp2
    go_loop [5] (fun i => ∃ j : Nat, i = .int .i64 j ∧ j ≤ bs.length ∧ Aside (∀ i (hi : i < bs.length), i < j → (bs[i].toList == v.toList) = false)) (fun i => bs.length - (intOf i).toNat)
    case atStart => exact ⟨0, rfl, by omega, fun i _ hi => absurd hi (by omega)⟩
    case round =>
      obtain ⟨j, rfl, hj, hall⟩ := hrel
      by_cases hlt : j < bs.length
      · have a0 := hcell j hlt
        cases hq : (bs[j].toList == v.toList)
        · generalize hnj : bs[j] = nj at *
          go_wp2
          go_round
          case rel =>
            refine ⟨j + 1, by go_num, by omega, fun i hi h2 => ?_⟩
            by_cases e : i = j
            · subst e; rw [hnj]; exact hq
            · exact hall.out i hi (by omega)
          case measure => simp [intOf]; omega
        · generalize hnj : bs[j] = nj at *
          go_wp2
          go_ret
          refine ⟨ret_bool (Eq.symm ?_), rfl⟩
          rw [hasS, List.any_eq_true]
          exact ⟨bs[j], List.getElem_mem hlt, by rw [hnj]; exact hq⟩
      · go_wp2
        go_ret
        refine ⟨ret_bool (Eq.symm ?_), rfl⟩
        rw [hasS, List.any_eq_false]
        intro x hx
        obtain ⟨i, hi, rfl⟩ := List.getElem_of_mem hx
        have := hall.out i hi (by omega)
        simpa using this
end
end Go.Proofs.YtdiefbahmcihlaaGreatDoor
