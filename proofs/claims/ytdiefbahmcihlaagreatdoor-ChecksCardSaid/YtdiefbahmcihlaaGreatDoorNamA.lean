/-
  The small functions of names.go: slices.Contains, wrongName, within, check.
-/
import Derived.Test.YtdiefbahmcihlaaGreatDoorFun
import Derived.Deep.RegionLawGrows
import Derived.Test.YtdiefbahmcihlaaGreatDoorPure
import Derived.Maps.OwnSet
import Derived.Deep.DeepCutAuto
namespace Go.Proofs.YtdiefbahmcihlaaGreatDoor
open Go.RowKit
attribute [local go_sem ↓] Go.wp_at_zero Go.wp_at_succ

/-- A slice of texts. -/
def StrsAt (w : World) (D : Nat → Prop) (sv : Value) (bs : List ByteArray) : Prop := RowAt w D 9 1 sv bs.length (bs.map Value.string)
def hasB (bs : List ByteArray) (v : ByteArray) : Bool := bs.any fun b => v.toList == b.toList
theorem hasB_iff (bs : List ByteArray) (v : ByteArray) : hasB bs v = true ↔ v.data.toList ∈ bs.map fun b => b.data.toList := by
  simp only [hasB, List.any_eq_true, beq_iff_eq, List.mem_map, ByteArray.toList_eq]
  constructor
  · rintro ⟨b, h1, h2⟩; exact ⟨b, h1, h2.symm⟩
  · rintro ⟨b, h1, h2⟩; exact ⟨b, h1, h2.symm⟩

set_option maxHeartbeats 1000000 in
theorem index_any (sv : Value) (bs : List ByteArray) (v : ByteArray) (w : World) (D : Nat → Prop) (h : StrsAt w D sv bs) (hn : bs.length ≤ 100000) :
    Calls Tryz.prog 214 #[sv, .string v] w fun e w' => (∃ i : Int, e = .returned (.int .i64 i) ∧ ((0 ≤ i) ↔ hasB bs v = true)) ∧ w' = w := by
  rcases h.2 with ⟨rfl, h0⟩ | ⟨g, cap, cur, rfl, hg, hh, hc, hm, hz, ht⟩
  · have : bs = [] := List.eq_nil_of_length_eq_zero h0
    subst this
    go_enter Tryz.func214, Tryz.ntmps214
    go_wp2
    go_loop [8] (fun i => i = .int .i64 0) (fun _ => 0)
    case atStart => rfl
    case round =>
      subst hrel
      go_wp2
      go_ret
      exact ⟨⟨-1, rfl, by simp [hasB]⟩, rfl⟩
  · have hcell : ∀ j (hj : j < bs.length), w.cell? ⟨g, j, none⟩ = some (.string bs[j]) := fun j hj => by
      have : w.cell? ⟨g, j, none⟩ = cur[j]? := by unfold World.cell?; rw [hh]; rfl
      rw [this, ← Array.getElem?_toList]
      have h2 : (cur.toList.take (bs.length * 1))[j]? = (bs.map Value.string)[j]? := by rw [ht]
      rw [List.getElem?_take, if_pos (by omega)] at h2
      rw [h2]
      simp [hj]
    clear ht hz hh h
    unfold maxLen at hm
    go_enter Tryz.func214, Tryz.ntmps214
    go_wp2
    go_loop [8] (fun i => ∃ k : Nat, i = .int .i64 k ∧ k ≤ bs.length ∧ Hid (∀ j (hj : j < k) (hl : j < bs.length), (v.toList == bs[j].toList) = false)) (fun i => bs.length - (intOf i).toNat)
    case atStart => exact ⟨0, rfl, by omega, fun j hj _ => absurd hj (by omega)⟩
    case round =>
      obtain ⟨k, rfl, hk, hall⟩ := hrel
      by_cases hlt : k < bs.length
      · have hck := hcell k hlt
        cases he : (v.toList == bs[k].toList)
        · go_wp2
          go_round
          case rel =>
            refine ⟨k + 1, by go_num, by omega, fun j hj hl => ?_⟩
            by_cases e : j = k
            · subst e; exact he
            · exact hall.out j (by omega) hl
          case measure => simp [intOf]; omega
        · go_wp2
          go_ret
          refine ⟨⟨k, rfl, ?_⟩, rfl⟩
          have : hasB bs v = true := by
            simp only [hasB, List.any_eq_true]
            exact ⟨bs[k], List.getElem_mem _, he⟩
          simp [this]
      · go_wp2
        go_ret
        refine ⟨⟨-1, rfl, ?_⟩, rfl⟩
        have : hasB bs v = false := by
          simp only [hasB, List.any_eq_false]
          intro b hb
          obtain ⟨j, hj, rfl⟩ := List.getElem_of_mem hb
          have := hall.out j (by omega) hj
          simp [this]
        simp [this]
set_option maxHeartbeats 1000000 in
theorem contains_any (sv : Value) (bs : List ByteArray) (v : ByteArray) (w : World) (D : Nat → Prop) (h : StrsAt w D sv bs) (hn : bs.length ≤ 100000) :
    Calls Tryz.prog 172 #[sv, .string v] w fun e w' => e = .returned (.bool (hasB bs v)) ∧ w' = w := by
  have ci := fun w h => index_any sv bs v w D h hn
  go_enter Tryz.func172, Tryz.ntmps172
  go_wp2_with (go_at_call 214; refine (ci _ h).mono ?_; rintro e w' ⟨⟨i, rfl, hi⟩, rfl⟩)
  go_ret
  exact ⟨ret_bool (Bool.eq_iff_iff.2 (by simp)), rfl⟩
set_option maxHeartbeats 1000000 in
theorem wrongName_any (nb : ByteArray) (at_ : Nat) (a : Addr) (w : World) :
    Calls Tryz.prog 171 #[nameV nb at_, errVal a] w fun e w' => e = .returned (wrongV at_ a) ∧ Below w.heap.size w w' := by
  go_enter Tryz.func171, Tryz.ntmps171
  go_wp2
  go_ret
  exact ⟨rfl, below1 w _⟩
end Go.Proofs.YtdiefbahmcihlaaGreatDoor

/-
  slices.Clip and within: a scope with a name more.
-/
namespace Go.Proofs.YtdiefbahmcihlaaGreatDoor
open Go.RowKit
attribute [local go_sem ↓] Go.wp_at_zero Go.wp_at_succ

/-- Its capacity cut down to its length. -/
def clipV : Value → Value
  | .slice ad n _ => .slice ad n (if ad.isSome then n else 0)
  | v => v
set_option maxHeartbeats 1000000 in
theorem clip_some (g n cap : Nat) (w : World) (hc : n ≤ cap) (_hm : cap ≤ maxLen) :
    Calls Tryz.prog 254 #[.slice (some ⟨g, 0, none⟩) n cap] w fun e w' => e = .returned (.slice (some ⟨g, 0, none⟩) n n) ∧ w' = w := by
  unfold maxLen at _hm
  go_enter Tryz.func254, Tryz.ntmps254
  go_wp2
  go_ret
  exact ⟨rfl, rfl⟩
set_option maxHeartbeats 1000000 in
theorem clip_none (w : World) :
    Calls Tryz.prog 254 #[.slice none 0 0] w fun e w' => e = .returned (.slice none 0 0) ∧ w' = w := by
  go_enter Tryz.func254, Tryz.ntmps254
  go_wp2
  go_ret
  exact ⟨rfl, rfl⟩
theorem Tryz.infoString : (Tryz.prog.info? 9).map (fun i => (i.zero, i.size, i.bytes)) = some (some (.string ⟨#[]⟩), 1, 16) := by kernel_rfl

theorem one_new2 (w : World) (o : Obj) (x : Value) (t : TypeId) : ∀ j u, [x][j]? = some u → ((w.alloc o).alloc (.cells #[x] t)).cell? ((⟨w.heap.size + 1, 0, none⟩ : Addr).add j) = some u := by
  have := cell_one_new (w.alloc o) x t
  simpa using this

set_option maxRecDepth 20000 in
set_option maxHeartbeats 1000000 in
theorem within_any (sv : Value) (bs : List ByteArray) (nb : ByteArray) (at_ : Nat) (w : World) (D : Nat → Prop) (h : StrsAt w D sv bs) (hn : bs.length ≤ 100000) :
    Calls Tryz.prog 216 #[sv, nameV nb at_] w fun e w' => ∃ v', e = .returned v' ∧ StrsAt w' (w.heap.size ≤ ·) v' (bs ++ [nb]) ∧ Below w.heap.size w w' := by
  obtain ⟨n0, n1, n2⟩ := new_cells2 w (.string nb) (.int .i64 ((at_ : Nat) : Int)) 78
  have fin : ∀ (v' : Value) (w6 : World), w6.ownsRow (w.heap.size + 2) 9 1 v' (bs.length + 1) (bs.map Value.string ++ [.string nb]) → ((w.alloc (Obj.cells #[.string nb, .int .i64 ((at_ : Nat) : Int)] 78)).alloc (Obj.cells #[.string nb] 9)).drew.grownBy w6 none → StrsAt w6 (w.heap.size ≤ ·) v' (bs ++ [nb]) ∧ Below w.heap.size w w6 := by
    intro v' w6 hown hgrow
    refine ⟨?_, ?_⟩
    · have : RowAt w6 (w.heap.size ≤ ·) 9 1 v' (bs.length + 1) (bs.map Value.string ++ [.string nb]) := RowAt.of_owns (owns_mono hown (by omega))
      unfold StrsAt
      rw [List.length_append, List.map_append]
      exact this
    · exact Below.grown ((((Below.refl _ _).alloc (Nat.le_refl _) _).alloc (by simp) _).drew) hgrow (by simp; omega) (fun k hk => by cases hk)
  rcases h.2 with ⟨rfl, h0⟩ | ⟨g, cap, cur, rfl, hg, hh, hc, hm, hz, ht⟩
  · have : bs = [] := List.eq_nil_of_length_eq_zero h0
    subst this
    have FN : Hid (∀ (v' : Value) (w6 : World), w6.ownsRow (w.heap.size + 2) 9 1 v' (0 + 1) ([] ++ [.string nb]) → ((w.alloc (Obj.cells #[.string nb, .int .i64 ((at_ : Nat) : Int)] 78)).alloc (Obj.cells #[.string nb] 9)).drew.grownBy w6 none → StrsAt w6 (w.heap.size ≤ ·) v' ([] ++ [nb]) ∧ Below w.heap.size w w6) := fin
    clear h h0 n1 n2 fin
    go_enter Tryz.func216, Tryz.ntmps216
    go_wp2
    go_region_held3 (fun w' => w'.cell? ⟨w.heap.size, 0, none⟩ = some (.string nb)) (first | go_keep | (refine cell_grown hgrow ?_ (by simp); (first | assumption | (exact alloc_cell n0))))
      ((first
        | (go_at_call 254; refine (clip_none _).mono ?_; rintro e w' ⟨rfl, rfl⟩)
        | (obtain ⟨i0, hi, hz0, hz1, hz2⟩ := info_parts Tryz.infoString; refine step_append_grows ?_ (.tmp 6) (.tmp 9) 22 ?_ 9 i0 (.string ⟨#[]⟩) 1 16 Tryz.underlying22 hi hz0 hz1 hz2 rfl (by decide) none 0 0 [] ?_ ?_ rfl ?_ ⟨w.heap.size + 1, 0, none⟩ 1 1 [.string nb] ?_ rfl ?_ ?_ (by decide) ?_ (by decide) ?_; (rfl); (rfl); (rfl); (exact fun _ => ⟨rfl, rfl⟩); (exact fun b hb => by cases hb); (rfl); (exact one_new2 w _ _ _); (intro u hu; simp at hu; subst hu; rfl); (unfold maxLen; decide); clear hi hz0 hz1 hz2; intro v' w6 hown' hgrow)))
    all_goals go_wp2
    all_goals go_ret
    all_goals refine ⟨v', rfl, FN.out v' w6 ?_ hgrow⟩
    all_goals simpa using hown'
  · have hcell : ∀ j u, (bs.map Value.string)[j]? = some u → w.cell? ⟨g, j, none⟩ = some u := fun j u hj => by
      have : w.cell? ⟨g, j, none⟩ = cur[j]? := by unfold World.cell?; rw [hh]; rfl
      rw [this, ← Array.getElem?_toList]
      have hl : j < bs.length := by
        have := (List.getElem?_eq_some_iff.1 hj).1
        simpa using this
      have h2 : (cur.toList.take (bs.length * 1))[j]? = (bs.map Value.string)[j]? := by rw [ht]
      rw [List.getElem?_take, if_pos (by omega)] at h2
      rw [h2]
      exact hj
    have hlt := block_lt hh
    have hcA : ∀ (b : Addr), some (⟨g, 0, none⟩ : Addr) = some b → ∀ j u, (bs.map Value.string)[j]? = some u → ((w.alloc (Obj.cells #[.string nb, .int .i64 ((at_ : Nat) : Int)] 78)).alloc (Obj.cells #[.string nb] 9)).cell? (b.add j) = some u := by
      intro b hb j u hj
      cases hb
      have := alloc_cell (o := Obj.cells #[.string nb] 9) (alloc_cell (o := Obj.cells #[.string nb, .int .i64 ((at_ : Nat) : Int)] 78) (hcell j u hj))
      rw [show (⟨g, 0, none⟩ : Addr).add j = ⟨g, j, none⟩ from by by_cases h : j = 0 <;> simp [Addr.add, h]]
      exact this
    have HC : Hid (∀ (b : Addr), some (⟨g, 0, none⟩ : Addr) = some b → ∀ j u, (bs.map Value.string)[j]? = some u → ((w.alloc (Obj.cells #[.string nb, .int .i64 ((at_ : Nat) : Int)] 78)).alloc (Obj.cells #[.string nb] 9)).cell? (b.add j) = some u) := hcA
    have FN : Hid (∀ (v' : Value) (w6 : World), w6.ownsRow (w.heap.size + 2) 9 1 v' (bs.length + 1) (bs.map Value.string ++ [.string nb]) → ((w.alloc (Obj.cells #[.string nb, .int .i64 ((at_ : Nat) : Int)] 78)).alloc (Obj.cells #[.string nb] 9)).drew.grownBy w6 none → StrsAt w6 (w.heap.size ≤ ·) v' (bs ++ [nb]) ∧ Below w.heap.size w w6) := fin
    clear h n1 n2 fin hcA hcell hz ht hh
    go_enter Tryz.func216, Tryz.ntmps216
    go_wp2
    go_region_held3 (fun w' => w'.cell? ⟨w.heap.size, 0, none⟩ = some (.string nb)) (first | go_keep | (refine cell_grown hgrow ?_ (by simp); (first | assumption | (exact alloc_cell n0))))
      ((first
        | (go_at_call 254; refine (clip_some g bs.length cap _ hc hm).mono ?_; rintro e w' ⟨rfl, rfl⟩)
        | (obtain ⟨i0, hi, hz0, hz1, hz2⟩ := info_parts Tryz.infoString; refine step_append_grows ?_ (.tmp 6) (.tmp 9) 22 ?_ 9 i0 (.string ⟨#[]⟩) 1 16 Tryz.underlying22 hi hz0 hz1 hz2 rfl (by decide) (some ⟨g, 0, none⟩) bs.length bs.length (bs.map Value.string) ?_ ?_ ?_ ?_ ⟨w.heap.size + 1, 0, none⟩ 1 1 [.string nb] ?_ rfl ?_ ?_ ?_ ?_ ?_ ?_; (rfl); (rfl); (rfl); (exact fun h => by cases h); (simp); (exact HC.out); (rfl); (exact one_new2 w _ _ _); (intro u hu; simp at hu; subst hu; rfl); (omega); (unfold maxLen; omega); (omega); clear hi hz0 hz1 hz2; intro v' w6 hown' hgrow)))
    all_goals go_wp2
    all_goals go_ret
    all_goals refine ⟨v', rfl, FN.out v' w6 ?_ hgrow⟩
    all_goals simpa using hown'
end Go.Proofs.YtdiefbahmcihlaaGreatDoor

/-
  The functions ahead, in a map; check: a call of one of them.
-/
namespace Go.Proofs.YtdiefbahmcihlaaGreatDoor
open Go.RowKit Go.Maps
attribute [local go_sem ↓] Go.wp_at_zero Go.wp_at_succ

/-- The map's datum says what the list says. -/
def MapIs (D : DataW Unit) (fs : List (List UInt8 × Nat)) : Prop :=
  ∀ l : List UInt8, Maps.has D (.string l) = (lookF fs l).isSome ∧ D.atKey (.string l) (.lit (.int .i64 0)) = .lit (.int .i64 (((lookF fs l).getD 0 : Nat) : Int))
theorem law : Keyed Tryz.prog 9 := string_keyed Tryz.underlying9
theorem zeroE (w : World) : (zeroValue 3).run Tryz.prog w = .ok (.int .i64 0) w := by kernel_rfl
/-- A map in block B that holds the functions ahead. -/
def AheadAt (w : World) (B : Nat) (fs : List (List UInt8 × Nat)) : Prop :=
  ∃ (n : Nat) (D : DataW Unit), w.ownsMap Tryz.prog 9 (plainElem Tryz.prog 3) B n D ∧ n ≤ fs.length ∧ MapIs D fs
theorem AheadAt.below {w w' : World} {B : Nat} {fs : List (List UInt8 × Nat)} (h : AheadAt w B fs) (hb : Below w.heap.size w w') : AheadAt w' B fs := by
  obtain ⟨n, D, h1, h2, h3⟩ := h
  obtain ⟨es, clock, g1, g2⟩ := h1
  exact ⟨n, D, ⟨es, clock, by rw [hb.block B (block_lt g1)]; exact g1, g2⟩, h2, h3⟩
theorem AheadAt.alloc {w : World} {B : Nat} {fs : List (List UInt8 × Nat)} (h : AheadAt w B fs) (o : Obj) : AheadAt (w.alloc o) B fs := h.below (below1 w o)

/-- The errors of names. -/
structure ErrsN (w : World) (aN aA aW : Addr) : Prop where
  eN : w.cell? ⟨6, 0, none⟩ = some (errVal aN)
  eA : w.cell? ⟨8, 0, none⟩ = some (errVal aA)
  eW : w.cell? ⟨7, 0, none⟩ = some (errVal aW)
theorem ErrsN.below {w w' : World} {aN aA aW : Addr} (h : ErrsN w aN aA aW) (hb : Below w.heap.size w w') : ErrsN w' aN aA aW := ⟨Below.cellv hb h.eN, Below.cellv hb h.eA, Below.cellv hb h.eW⟩

/-- An error of names as a value. -/
def errN (o : Option (Nat × Nat)) (aN aA aW : Addr) : Value :=
  match o with
  | none => .nilIface
  | some (c, p) => wrongV p (if c = 4 then aN else if c = 6 then aA else aW)

set_option maxHeartbeats 1000000 in
theorem check_any (B : Nat) (fs : List (List UInt8 × Nat)) (nb : ByteArray) (at_ c : Nat) (w : World) (aN aA aW : Addr) (hA : AheadAt w B fs) (hE : ErrsN w aN aA aW) (hnb : nb.size ≤ 2000) :
    Calls Tryz.prog 217 #[.map (some B), nameV nb at_, .int .i64 ((c : Nat) : Int)] w fun e w' => e = .returned (errN (callErr fs nb.data.toList at_ c) aN aA aW) ∧ Below w.heap.size w w' := by
  obtain ⟨n, D, hown, hn, hD⟩ := hA
  obtain ⟨d1, d2⟩ := hD nb.data.toList
  have hkey : keyOf Tryz.prog 9 (.string nb) = some (.string nb.data.toList) := WideMaps.keyOf_string_mk Tryz.underlying9 (by unfold maxLen; omega)
  obtain ⟨eN, eA, eW⟩ := hE
  have l1 := cell_lt eN
  have l2 := cell_lt eA
  cases hL : lookF fs nb.data.toList with
  | none =>
    rw [hL] at d1 d2
    have d1' : Maps.has D (.string nb.data.toList) = false := d1
    have e : callErr fs nb.data.toList at_ c = some (4, at_) := by simp [callErr, hL]
    rw [e]
    clear d1 hL e
    go_enter Tryz.func217, Tryz.ntmps217
    go_wp2_with (first
      | (at_lookup; refine wpList_lookup_own_ok_int _ rfl _ _ 259 rfl 9 3 .i64 law Tryz.underlying259 Tryz.underlying3 (zeroE _) B n D rfl (hown.alloc _) _ _ rfl hkey ?_; intro k hk _)
      | (go_at_call 171; refine (wrongName_any nb at_ aN _).mono ?_; rintro e w' ⟨rfl, hb⟩))
    go_ret
    exact ⟨rfl, (below1 w _).trans (hb.mono (by simp))⟩
  | some k =>
    rw [hL] at d1 d2
    have d1' : Maps.has D (.string nb.data.toList) = true := d1
    have D2 : Hid (D.atKey (.string nb.data.toList) (.lit (.int .i64 0)) = .lit (.int .i64 ((k : Nat) : Int))) := d2
    have e : callErr fs nb.data.toList at_ c = if k = c then none else some (6, at_) := by simp [callErr, hL]
    rw [e]
    clear d1 d2 hL e
    by_cases hkc : k = c
    · subst hkc
      rw [if_pos rfl]
      go_enter Tryz.func217, Tryz.ntmps217
      go_wp2_with (at_lookup; refine wpList_lookup_own_ok_int _ rfl _ _ 259 rfl 9 3 .i64 law Tryz.underlying259 Tryz.underlying3 (zeroE _) B n D rfl (hown.alloc _) _ _ rfl hkey ?_; intro k' hk hwf; clear hwf; have hkk : k' = ((k : Nat) : Int) := (by rw [D2.out] at hk; simpa using hk.symm); subst hkk; clear hk)
      go_ret
      exact ⟨rfl, below1 w _⟩
    · rw [if_neg hkc]
      have hne : ((k : Nat) : Int) ≠ ((c : Nat) : Int) := by omega
      clear hkc
      generalize ((k : Nat) : Int) = ki at D2 hne
      generalize ((c : Nat) : Int) = ci at hne ⊢
      go_enter Tryz.func217, Tryz.ntmps217
      go_upto_region 4 with (at_lookup; refine wpList_lookup_own_ok_int _ rfl _ _ 259 rfl 9 3 .i64 law Tryz.underlying259 Tryz.underlying3 (zeroE _) B n D rfl (hown.alloc _) _ _ rfl hkey ?_; intro k' hk hwf; clear hwf; have hkk : k' = ki := (by rw [D2.out] at hk; simpa using hk.symm); subst hkk; clear hk)
      have hkc2 : (k' == ci) = false := by simpa using hne
      clear hown hkey D2 hD d1' hne
      go_wp2_with (go_at_call 171; refine (wrongName_any nb at_ aA _).mono ?_; rintro e w' ⟨rfl, hb⟩)
      go_ret
      exact ⟨rfl, (below1 w _).trans (hb.mono (by simp))⟩
end Go.Proofs.YtdiefbahmcihlaaGreatDoor

/-
  What is wrong with the names of an expr, as a plain function; checkExprs out of checkExpr.
-/
namespace Go.Proofs.YtdiefbahmcihlaaGreatDoor
open Go.RowKit
attribute [local go_sem ↓] Go.wp_at_zero Go.wp_at_succ


def namesOf (bs : List ByteArray) : List (List UInt8) := bs.map fun b => b.data.toList
theorem contains_names (bs : List ByteArray) (v : ByteArray) : hasB bs v = (namesOf bs).contains v.data.toList := by
  rw [Bool.eq_iff_iff, hasB_iff]
  simp [namesOf]

/-- What checkExpr does, at exprs of up to a size. -/
def ExprDo (k : Nat) : Prop :=
  ∀ (e : Ex) (v sv : Value) (bs : List ByteArray) (B : Nat) (fs : List (List UInt8 × Nat)) (w : World) (D D2 : Nat → Prop) (aN aA aW : Addr), szE e ≤ k → bs.length + szE e ≤ 100000 → RepE w D e v → StrsAt w D2 sv bs → AheadAt w B fs → ErrsN w aN aA aW →
    Calls Tryz.prog 173 #[v, sv, .map (some B)] w fun r w' => r = .returned (errN (nmE fs (namesOf bs) e) aN aA aW) ∧ Below w.heap.size w w'

theorem StrsAt.below {w w' : World} {D : Nat → Prop} {sv : Value} {bs : List ByteArray} (h : StrsAt w D sv bs) (hb : Below w.heap.size w w') : StrsAt w' D sv bs := row_below h hb
theorem RepE.below {w w' : World} {D : Nat → Prop} {e : Ex} {v : Value} (h : RepE w D e v) (hb : Below w.heap.size w w') : RepE w' D e v := h.map fun _ _ _ hr => row_below hr hb
theorem RepEs.below {w w' : World} {D : Nat → Prop} {e : List Ex} {v : List Value} (h : RepEs w D e v) (hb : Below w.heap.size w w') : RepEs w' D e v := h.map fun _ _ _ hr => row_below hr hb
theorem RepEs.at {w : World} {D : Nat → Prop} : ∀ {es : List Ex} {vs : List Value}, RepEs w D es vs → ∀ j (hj : j < vs.length) (hj2 : j < es.length), RepE w D es[j] vs[j]
  | [], vs, h, j, hj, hj2 => by simp at hj2
  | e :: es, vs, h, j, hj, hj2 => by
    rw [RepEs] at h
    obtain ⟨v, r, rfl, h2, h3⟩ := h
    cases j with
    | zero => exact h2
    | succ j => exact RepEs.at h3 j (by simpa using hj) (by simpa using hj2)
set_option maxHeartbeats 1000000 in
theorem checkExprs_of {k : Nat} (IH : ExprDo k) (es : List Ex) (pv sv : Value) (vs : List Value) (bs : List ByteArray) (B : Nat) (fs : List (List UInt8 × Nat)) (w : World) (D D2 D3 : Nat → Prop) (aN aA aW : Addr) (hsz : szEs es ≤ k + 1) (hb : bs.length + szEs es ≤ 100000)
    (hR : RowAt w D3 81 1 pv vs.length vs) (hE : RepEs w D es vs) (hS : StrsAt w D2 sv bs) (hA : AheadAt w B fs) (hN : ErrsN w aN aA aW) :
    Calls Tryz.prog 218 #[pv, sv, .map (some B)] w fun r w' => r = .returned (errN (nmEs fs (namesOf bs) es) aN aA aW) ∧ Below w.heap.size w w' := by
  have hlen := hE.length
  rcases Nat.eq_zero_or_pos vs.length with h0 | hpos
  · have hv : vs = [] := List.eq_nil_of_length_eq_zero h0
    have he : es = [] := List.eq_nil_of_length_eq_zero (by omega)
    subst hv he
    obtain ⟨ad, n, cap, rfl⟩ := row_slice hR
    have hn : n = 0 := by
      rcases hR.2 with ⟨h, _⟩ | ⟨g, c, _, h, _⟩ <;> (cases h; rfl)
    subst hn
    rw [nmEs]
    go_enter Tryz.func218, Tryz.ntmps218
    go_wp2
    go_loop [12] (fun i => i = .int .i64 0) (fun _ => 0)
    case atStart => rfl
    case round =>
      subst hrel
      go_wp2
      go_ret
      exact ⟨rfl, Below.refl _ _⟩
  · obtain ⟨g, cap, rfl, hg, hc1, hc2, hcell⟩ := hR.cell hpos
    unfold maxLen at hc2
    have hlt : g < w.heap.size := by
      have : w.cell? ⟨g, 0, none⟩ = vs[0]? := hcell 0 (by omega)
      rw [List.getElem?_eq_getElem hpos] at this
      exact cell_lt this
    have HL : Hid (vs.length = es.length) := hlen
    clear hlen
    have hvl : (vs.length : Int) ≤ 100000 := by
      have h1 := szEs_len es
      have h2 : vs.length = es.length := HL.out
      omega
    go_enter Tryz.func218, Tryz.ntmps218
    go_wp2
    go_loopg [12] vs.length (fun m i wr => ∃ j : Nat, m = vs.length - j ∧ i = .int .i64 j ∧ j ≤ vs.length ∧ Below w.heap.size w wr ∧ nmEs fs (namesOf bs) es = nmEs fs (namesOf bs) (es.drop j))
    case atStart => exact ⟨0, by omega, rfl, by omega, Below.refl _ _, rfl⟩
    case round =>
      obtain ⟨j, rfl, rfl, hj, hbw, heq⟩ := hrel
      have HQ : Aside (nmEs fs (namesOf bs) es = nmEs fs (namesOf bs) (es.drop j)) := heq
      clear heq
      by_cases hjl : j < vs.length
      · have hje : j < es.length := by have h2 : vs.length = es.length := HL.out; omega
        have cj : w.cell? ⟨g, j, none⟩ = some vs[j] := by rw [hcell j (by omega)]; exact List.getElem?_eq_getElem hjl
        obtain ⟨tj, xj, hv⟩ := (hE.at j hjl hje).iface
        have cw : wr.cell? ⟨g, j, none⟩ = some (.iface tj xj) := by rw [← hv]; exact Below.cellv hbw cj
        have hs1 := szEs_at es j hje
        have ce := IH es[j] vs[j] sv bs B fs wr D D2 aN aA aW (by omega) (by omega) ((hE.at j hjl hje).below hbw) (hS.below hbw) (hA.below hbw) (hN.below hbw)
        rw [hv] at ce
        have hnd := nmEs_drop fs (namesOf bs) es j hje
        have HQ2 : Aside (nmEs fs (namesOf bs) es = orE (nmE fs (namesOf bs) es[j]) (nmEs fs (namesOf bs) (es.drop (j + 1)))) := by
          show _ = _
          rw [HQ.out, hnd]
        have hbz := hbw.size
        clear HQ hnd hcell hE hS hA hN cj IH hR
        cases hm : nmE fs (namesOf bs) es[j] with
        | some x =>
          rw [hm] at ce
          obtain ⟨c, p⟩ := x
          obtain ⟨a, ha⟩ : ∃ a, errN (some (c, p)) aN aA aW = wrongV p a := ⟨_, rfl⟩
          rw [ha] at ce
          have HP : Hid (errN (nmEs fs (namesOf bs) es) aN aA aW = wrongV p a) := by show _ = _; rw [HQ2.out, hm]; exact ha
          clear HQ2 hm ha
          go_wp2_with (go_at_call 173; refine ce.mono ?_; rintro e w2 ⟨rfl, hb2⟩)
          go_ret
          exact ⟨by rw [HP.out]; rfl, hbw.trans (hb2.mono hbz)⟩
        | none =>
          rw [hm] at ce
          have HP : Aside (nmEs fs (namesOf bs) es = nmEs fs (namesOf bs) (es.drop (j + 1))) := by show _ = _; rw [HQ2.out, hm]; rfl
          clear HQ2 hm
          go_wp2_with (go_at_call 173; refine ce.mono ?_; rintro e w2 ⟨rfl, hb2⟩; simp only [errN])
          go_roundg (vs.length - (j + 1))
          case measure => omega
          case rel => exact ⟨j + 1, rfl, by go_num, by omega, hbw.trans (hb2.mono hbz), HP.out⟩
      · have hP : Hid (nmEs fs (namesOf bs) es = none) := by
          show _ = _
          rw [HQ.out, List.drop_eq_nil_of_le (by have := HL.out; omega), nmEs]
        go_wp2
        go_ret
        exact ⟨by rw [hP.out]; rfl, hbw⟩
end Go.Proofs.YtdiefbahmcihlaaGreatDoor
