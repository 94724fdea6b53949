/-
  fun and name of the parser.
-/
import Derived.Test.YtdiefbahmcihlaaGreatDoorParA
import Derived.Deep.LoopGhost
import Derived.OwnWalk
import Derived.Maps.AppendAt
namespace Go.Proofs.YtdiefbahmcihlaaGreatDoor
open Go.RowKit
attribute [local go_sem ↓] Go.wp_at_zero Go.wp_at_succ

theorem isName_tok {t : Tok} {bd : ByteArray} (h : bd.data.toList = bodyL t.k t.body) : isName (kcode t.k) bd.data.toList = isNameT t := by
  rw [h]
  unfold isName isNameT
  cases t.k <;> simp [kcode, bodyL]
theorem isNameT_word {t : Tok} (h : isNameT t = true) : t.k = .word := by
  unfold isNameT at h
  simp at h
  exact h.1
theorem PT.alloc {pb rb : Nat} {a w : World} (h : PT pb rb a w) (o : Obj) : PT pb rb a (w.alloc o) := Touch.alloc h o
theorem PT.below {pb rb : Nat} {a w w' : World} (h : PT pb rb a w) (hb : Below w.heap.size w w') : PT pb rb a w' := Touch.trans h (Touch.of_below hb)
theorem PT.size {pb rb : Nat} {a w : World} (h : PT pb rb a w) : a.heap.size ≤ w.heap.size := Touch.size h
theorem PT.set {pb rb : Nat} {a w : World} (h : PT pb rb a w) {b o : Nat} (hb : a.heap.size ≤ b) (u : Value) : PT pb rb a (w.setCell ⟨b, o, none⟩ u) := Touch.setCell h (Or.inr hb) u
theorem Pz.alloc {w : World} {pb rb : Nat} {s : ByteArray} {aT aD : Addr} {p d : Nat} (h : Pz w pb rb s aT aD p d) (o : Obj) : Pz (w.alloc o) pb rb s aT aD p d := h.keep ((Below.refl _ _).alloc (Nat.le_refl _) o)
/-- A store into a block that is neither the parser's nor a variable's. -/
theorem Pz.set {w : World} {pb rb : Nat} {s : ByteArray} {aT aD : Addr} {p d : Nat} (h : Pz w pb rb s aT aD p d) {b o : Nat} (hb1 : b ≠ pb) (hb2 : b ≠ rb) (hb3 : 15 ≤ b) (u : Value) : Pz (w.setCell ⟨b, o, none⟩ u) pb rb s aT aD p d := by
  have far : ∀ {a : Addr} {x : Value}, w.cell? a = some x → a.block ≠ b → (w.setCell ⟨b, o, none⟩ u).cell? a = some x := fun {a x} ha hn => by
    rw [World.cell?_setCell_other _ _ _ _ (by rintro rfl; exact hn rfl)]; exact ha
  exact { h with
    rdr := far h.rdr (Ne.symm hb1)
    opn := far h.opn (Ne.symm hb1)
    free := by rw [World.frozen?_setCell]; exact h.free
    rd := ⟨far h.rd.text (Ne.symm hb2), far h.rd.place (Ne.symm hb2), by rw [World.frozen?_setCell]; exact h.rd.free⟩
    eT := far h.eT (by show 5 ≠ b; omega)
    eD := far h.eD (by show 1 ≠ b; omega) }
theorem Pz.lt {w : World} {pb rb : Nat} {s : ByteArray} {aT aD : Addr} {p d : Nat} (h : Pz w pb rb s aT aD p d) : pb < w.heap.size ∧ rb < w.heap.size := ⟨cell_lt h.opn, cell_lt h.rd.place⟩

set_option maxHeartbeats 1000000 in
theorem fun_ok {w : World} {pb rb : Nat} {s : ByteArray} {aT aD : Addr} {p d : Nat} (h : Pz w pb rb s aT aD p d) {t : Tok} {ts : List Tok} (hts : IsToks s.data.toList p (t :: ts)) (hk : t.k = .word) (hb : t.body = [102, 117, 110]) :
    Calls Tryz.prog 167 #[.pointer (some ⟨pb, 0, none⟩)] w fun e w' => e = .returned .nilIface ∧ PT pb rb w w' ∧ ∃ q, Pz w' pb rb s aT aD q d ∧ IsToks s.data.toList q ts := by
  have cn := next_good h hts (by rw [hk]; decide)
  have r1 := h.rdr
  rw [hk] at cn
  clear h
  go_enter Tryz.func167, Tryz.ntmps167
  go_wp2_with (go_at_call 121; refine cn.mono ?_; rintro e w' ⟨bd, rfl, hbd, hbz, hpt, q, hz, hq⟩; have hbl : bd.toList = [102, 117, 110] := (by rw [ByteArray.toList_eq, hbd, hb]; rfl); clear hbd)
  go_ret
  exact ⟨rfl, hpt.alloc _, q, hz.alloc _, hq (by decide)⟩
set_option maxHeartbeats 1000000 in
theorem fun_no {w : World} {pb rb : Nat} {s : ByteArray} {aT aD : Addr} {p d : Nat} (h : Pz w pb rb s aT aD p d) {t : Tok} {ts : List Tok} (hts : IsToks s.data.toList p (t :: ts)) (hn : ¬ (t.k = .word ∧ t.body = [102, 117, 110])) :
    Calls Tryz.prog 167 #[.pointer (some ⟨pb, 0, none⟩)] w fun e w' => e = .returned (wrongV t.at_ aT) ∧ PT pb rb w w' := by
  have r1 := h.rdr
  by_cases hbad : t.k = .bad
  · have cn := next_bad h hts hbad
    clear h hn
    go_enter Tryz.func167, Tryz.ntmps167
    go_wp2_with (go_at_call 121; refine cn.mono ?_; rintro e w' ⟨rfl, hpt⟩)
    go_ret
    exact ⟨rfl, hpt.alloc _⟩
  · have cn := next_good h hts hbad
    by_cases hw : t.k = .word
    · have hb : t.body ≠ [102, 117, 110] := fun e => hn ⟨hw, e⟩
      rw [hw] at cn
      clear h hn hbad
      go_enter Tryz.func167, Tryz.ntmps167
      go_wp2_with (first
        | (go_at_call 121; refine cn.mono ?_; rintro e w' ⟨bd, rfl, hbd, hbz, hpt, q, hz, hq⟩; have hbl : (bd.toList == [102, 117, 110]) = false := (by rw [ByteArray.toList_eq, hbd]; simpa [bodyL] using hb); clear hbd)
        | (go_at_call 210; refine (misplaced_any 5 t.at_ bd _ aT ?_).mono ?_; (exact (hz.alloc _).eT); rintro e w2 ⟨rfl, hb2⟩))
      go_ret
      exact ⟨rfl, (hpt.alloc _).below hb2⟩
    · have hk5 : ¬ kcode t.k = 5 := by
        revert hw
        cases t.k <;> simp [kcode]
      clear h hn hbad
      go_enter Tryz.func167, Tryz.ntmps167
      go_wp2_with (first
        | (go_at_call 121; refine cn.mono ?_; rintro e w' ⟨bd, rfl, hbd, hbz, hpt, q, hz, hq⟩; clear hbd)
        | (go_at_call 210; refine (misplaced_any (kcode t.k) t.at_ bd _ aT ?_).mono ?_; (exact (hz.alloc _).eT); rintro e w2 ⟨rfl, hb2⟩))
      go_ret
      exact ⟨rfl, (hpt.alloc _).below hb2⟩
end Go.Proofs.YtdiefbahmcihlaaGreatDoor

/-
  name and parameters of the parser.
-/
namespace Go.Proofs.YtdiefbahmcihlaaGreatDoor
open Go.RowKit
attribute [local go_sem ↓] Go.wp_at_zero Go.wp_at_succ

theorem PT.grown {pb rb : Nat} {a w w' : World} {row : Option Nat} (h : PT pb rb a w) (hg : w.grownBy w' row) (hr : ∀ k, row = some k → a.heap.size ≤ k) : PT pb rb a w' :=
  ⟨hg.os.trans h.os, hg.tape.trans h.tape, hg.output.trans h.output, Nat.le_trans h.size hg.size, fun k hk hS => (hg.block k (Nat.lt_of_lt_of_le hk h.size) (fun e => by have := hr k e.symm; omega)).trans (h.block k hk hS)⟩
theorem cell_grown {w w' : World} {row : Option Nat} (hg : w.grownBy w' row) {p : Addr} {v : Value} (hc : w.cell? p = some v) (hne : some p.block ≠ row) : w'.cell? p = some v := by
  rw [World.cell?_of_block (w := w) (hg.block p.block (cell_lt hc) hne)]
  exact hc
theorem Pz.grown {w w' : World} {pb rb : Nat} {s : ByteArray} {aT aD : Addr} {p d : Nat} {row : Option Nat} (h : Pz w pb rb s aT aD p d) (hg : w.grownBy w' row) (hr : ∀ k, row = some k → pb < k ∧ rb < k) : Pz w' pb rb s aT aD p d := by
  have g1 := h.h1
  have g2 := h.h2
  have ne : ∀ k, (k = pb ∨ k = rb ∨ k < 15) → some k ≠ row := fun k hk e => by have := hr k e.symm; omega
  exact { h with
    rdr := cell_grown hg h.rdr (ne _ (Or.inl rfl))
    opn := cell_grown hg h.opn (ne _ (Or.inl rfl))
    free := by rw [World.frozen?_of_block (w := w) (a := ⟨pb, 1, none⟩) (hg.block pb (cell_lt h.opn) (ne _ (Or.inl rfl)))]; exact h.free
    rd := ⟨cell_grown hg h.rd.text (ne _ (Or.inr (Or.inl rfl))), cell_grown hg h.rd.place (ne _ (Or.inr (Or.inl rfl))), by rw [World.frozen?_of_block (w := w) (a := ⟨rb, 1, none⟩) (hg.block rb (cell_lt h.rd.place) (ne _ (Or.inr (Or.inl rfl))))]; exact h.rd.free⟩
    eT := cell_grown hg h.eT (ne _ (Or.inr (Or.inr (by show 5 < 15; decide))))
    eD := cell_grown hg h.eD (ne _ (Or.inr (Or.inr (by show 1 < 15; decide)))) }
/-- An owned row stays owned where its block has not turned. -/
theorem owns_touch {w w' : World} {base : Nat} {e : TypeId} {size : Nat} {v : Value} {n : Nat} {xs : List Value} (h : w.ownsRow base e size v n xs) {S : Nat → Prop} (ht : Touch S w w') (hS : ∀ k, base ≤ k → ¬ S k) : w'.ownsRow base e size v n xs := by
  obtain ⟨h1, h2⟩ := h
  refine ⟨h1, ?_⟩
  rcases h2 with g | ⟨g, cap, cur, hv, hg, hh, hn, hcap, hsz, htake⟩
  · exact Or.inl g
  · refine Or.inr ⟨g, cap, cur, hv, hg, ?_, hn, hcap, hsz, htake⟩
    have hlt : g < w.heap.size := by
      rcases Nat.lt_or_ge g w.heap.size with h | h
      · exact h
      · rw [Array.getElem?_eq_none h] at hh; cases hh
    rw [ht.block g hlt (hS g hg)]
    exact hh

theorem new_name (w : World) : let X := w.alloc (.cells #[.string ⟨#[]⟩, .int .i64 0] 78)
    X.cell? ⟨w.heap.size, 0, none⟩ = some (.string ⟨#[]⟩) ∧ X.cell? ⟨w.heap.size, 1, none⟩ = some (.int .i64 0) ∧ X.frozen? ⟨w.heap.size, 0, none⟩ = false ∧ X.frozen? ⟨w.heap.size, 1, none⟩ = false ∧ w.heap.size < X.heap.size := by
  have h : (w.alloc (Obj.cells #[.string ⟨#[]⟩, .int .i64 0] 78)).heap[w.heap.size]? = some (.cells #[.string ⟨#[]⟩, .int .i64 0] 78) := heap_alloc_new _ _
  refine ⟨?_, ?_, ?_, ?_, by simp⟩
  · unfold World.cell?; rw [h]; rfl
  · unfold World.cell?; rw [h]; rfl
  · unfold World.frozen?; rw [h]; rfl
  · unfold World.frozen?; rw [h]; rfl
theorem PT.cell {pb rb : Nat} {w w' : World} (h : PT pb rb w w') {p : Addr} {v : Value} (hc : w.cell? p = some v) (h1 : p.block ≠ pb) (h2 : p.block ≠ rb) : w'.cell? p = some v := Touch.cell h hc (by rintro (g | g); exact h2 g; exact h1 g)
theorem PT.frz {pb rb : Nat} {w w' : World} (h : PT pb rb w w') {p : Addr} (hlt : p.block < w.heap.size) (h1 : p.block ≠ pb) (h2 : p.block ≠ rb) : w'.frozen? p = w.frozen? p := Touch.frozen h hlt (by rintro (g | g); exact h2 g; exact h1 g)

set_option maxHeartbeats 1000000 in
theorem name_ok {w : World} {pb rb : Nat} {s : ByteArray} {aT aD : Addr} {p d : Nat} (h : Pz w pb rb s aT aD p d) {t : Tok} {ts : List Tok} (hts : IsToks s.data.toList p (t :: ts)) (hn : isNameT t = true) :
    Calls Tryz.prog 168 #[.pointer (some ⟨pb, 0, none⟩)] w fun e w' => ∃ bd : ByteArray, e = .returned (.tuple #[nameV bd t.at_, .nilIface]) ∧ bd.data.toList = t.body ∧ bd.size ≤ 2000 ∧ PT pb rb w w' ∧ ∃ q, Pz w' pb rb s aT aD q d ∧ IsToks s.data.toList q ts := by
  have hw := isNameT_word hn
  have ha := (h.alloc (Obj.cells #[.string ⟨#[]⟩, .int .i64 0] 78))
  have cn := next_good ha hts (by rw [hw]; decide)
  have r1 := ha.rdr
  have hlt := h.lt
  obtain ⟨n0, n1, n2, n3, n4⟩ := new_name w
  have hx : w.heap.size ≠ pb := by omega
  have hy : w.heap.size ≠ rb := by omega
  have h15 := h.h1
  go_enter Tryz.func168, Tryz.ntmps168
  go_wp2_with (go_at_call 121; refine cn.mono ?_; rintro e w' ⟨bd, rfl, hbd, hbz, hpt, q, hz, hq⟩)
  refine (nameOf_ok (kcode K.word) t.at_ bd _ (by rw [← hw, isName_tok hbd]; exact hn)).mono ?_
  rintro e w2 ⟨rfl, hb2⟩
  have m0 : w2.cell? ⟨w.heap.size, 0, none⟩ = some (.string ⟨#[]⟩) := Below.cellv hb2 (alloc_cell (hpt.cell n0 hx hy))
  have m1 : w2.cell? ⟨w.heap.size, 1, none⟩ = some (.int .i64 0) := Below.cellv hb2 (alloc_cell (hpt.cell n1 hx hy))
  have k1 : w.heap.size < w'.heap.size := Nat.lt_of_lt_of_le n4 hpt.size
  have m2 : w2.frozen? ⟨w.heap.size, 0, none⟩ = false := by
    rw [hb2.frozen (p := ⟨w.heap.size, 0, none⟩) (by simp; omega), World.frozen?_alloc_old _ _ _ (by simp; omega), hpt.frz (p := ⟨w.heap.size, 0, none⟩) n4 hx hy]; exact n2
  have m3 : w2.frozen? ⟨w.heap.size, 1, none⟩ = false := by
    rw [hb2.frozen (p := ⟨w.heap.size, 1, none⟩) (by simp; omega), World.frozen?_alloc_old _ _ _ (by simp; omega), hpt.frz (p := ⟨w.heap.size, 1, none⟩) n4 hx hy]; exact n3
  have hpt2 : PT pb rb w w2 := (((PT.refl w).alloc _).trans hpt |>.alloc _).below hb2
  have hz2 : Pz w2 pb rb s aT aD q d := (hz.alloc _).keep hb2
  clear cn r1 ha hpt hz hb2 n0 n1 n2 n3 n4
  go_wp2
  refine bodyPost_ret (v := .tuple #[nameV bd t.at_, .nilIface]) (by simp [results, Tryz.results168, go_sem, m0, m1]) rfl ⟨bd, rfl, by rw [hbd, hw]; rfl, hbz, (hpt2.set (Nat.le_refl _) _).set (Nat.le_refl _) _, q, (hz2.set hx hy (by omega) _).set hx hy (by omega) _, hq (by rw [hw]; decide)⟩

set_option maxHeartbeats 1000000 in
theorem name_no {w : World} {pb rb : Nat} {s : ByteArray} {aT aD : Addr} {p d : Nat} (h : Pz w pb rb s aT aD p d) {t : Tok} {ts : List Tok} (hts : IsToks s.data.toList p (t :: ts)) (hn : isNameT t = false) :
    Calls Tryz.prog 168 #[.pointer (some ⟨pb, 0, none⟩)] w fun e w' => e = .returned (.tuple #[nameV ⟨#[]⟩ 0, wrongV t.at_ aT]) ∧ PT pb rb w w' := by
  have ha := (h.alloc (Obj.cells #[.string ⟨#[]⟩, .int .i64 0] 78))
  have r1 := ha.rdr
  have hlt := h.lt
  obtain ⟨n0, n1, n2, n3, n4⟩ := new_name w
  have hx : w.heap.size ≠ pb := by omega
  have hy : w.heap.size ≠ rb := by omega
  by_cases hbad : t.k = .bad
  · have cn := next_bad ha hts hbad
    go_enter Tryz.func168, Tryz.ntmps168
    go_wp2_with fail
    refine cn.mono ?_
    rintro e w' ⟨rfl, hpt⟩
    have m0 : w'.cell? ⟨w.heap.size, 0, none⟩ = some (.string ⟨#[]⟩) := (hpt.cell n0 hx hy)
    have m1 : w'.cell? ⟨w.heap.size, 1, none⟩ = some (.int .i64 0) := (hpt.cell n1 hx hy)
    have k1 : w.heap.size < w'.heap.size := Nat.lt_of_lt_of_le n4 hpt.size
    have m2 : w'.frozen? ⟨w.heap.size, 0, none⟩ = false := by
      rw [hpt.frz (p := ⟨w.heap.size, 0, none⟩) n4 hx hy]; exact n2
    have m3 : w'.frozen? ⟨w.heap.size, 1, none⟩ = false := by
      rw [hpt.frz (p := ⟨w.heap.size, 1, none⟩) n4 hx hy]; exact n3
    have hpt2 : PT pb rb w w' := (((PT.refl w).alloc _).trans hpt)
    clear cn r1 ha hpt n0 n1 n2 n3 n4
    go_wp2
    refine bodyPost_ret (v := .tuple #[nameV ⟨#[]⟩ 0, wrongV t.at_ aT]) (by simp [results, Tryz.results168, go_sem, m0, m1, k1]) rfl ⟨rfl, ((hpt2.set (Nat.le_refl _) _).set (Nat.le_refl _) _).alloc _⟩
  · have cn := next_good ha hts hbad
    go_enter Tryz.func168, Tryz.ntmps168
    go_wp2_with (go_at_call 121; refine cn.mono ?_; rintro e w' ⟨bd, rfl, hbd, hbz, hpt, q, hz, hq⟩)
    refine (nameOf_no (kcode t.k) t.at_ bd _ aT (hz.alloc _).eT (by rw [isName_tok hbd]; exact hn)).mono ?_
    rintro e w2 ⟨rfl, hb2⟩
    have m0 : w2.cell? ⟨w.heap.size, 0, none⟩ = some (.string ⟨#[]⟩) := Below.cellv hb2 (alloc_cell (hpt.cell n0 hx hy))
    have m1 : w2.cell? ⟨w.heap.size, 1, none⟩ = some (.int .i64 0) := Below.cellv hb2 (alloc_cell (hpt.cell n1 hx hy))
    have k1 : w.heap.size < w'.heap.size := Nat.lt_of_lt_of_le n4 hpt.size
    have m2 : w2.frozen? ⟨w.heap.size, 0, none⟩ = false := by
      rw [hb2.frozen (p := ⟨w.heap.size, 0, none⟩) (by simp; omega), World.frozen?_alloc_old _ _ _ (by simp; omega), hpt.frz (p := ⟨w.heap.size, 0, none⟩) n4 hx hy]; exact n2
    have m3 : w2.frozen? ⟨w.heap.size, 1, none⟩ = false := by
      rw [hb2.frozen (p := ⟨w.heap.size, 1, none⟩) (by simp; omega), World.frozen?_alloc_old _ _ _ (by simp; omega), hpt.frz (p := ⟨w.heap.size, 1, none⟩) n4 hx hy]; exact n3
    have hpt2 : PT pb rb w w2 := (((PT.refl w).alloc _).trans hpt |>.alloc _).below hb2
    clear cn r1 ha hpt hz hb2 n0 n1 n2 n3 n4
    go_wp2
    refine bodyPost_ret (v := .tuple #[nameV ⟨#[]⟩ 0, wrongV t.at_ aT]) (by simp [results, Tryz.results168, go_sem, m0, m1]) rfl ⟨rfl, (hpt2.set (Nat.le_refl _) _).set (Nat.le_refl _) _⟩
end Go.Proofs.YtdiefbahmcihlaaGreatDoor

/-
  parameters of the parser.
-/
namespace Go.Proofs.YtdiefbahmcihlaaGreatDoor
open Go.RowKit
attribute [local go_sem ↓] Go.wp_at_zero Go.wp_at_succ

/-- Names, as the cells of a slice of them. -/
def nameCells : List (ByteArray × Nat) → List Value
  | [] => []
  | x :: r => .string x.1 :: .int .i64 ((x.2 : Nat) : Int) :: nameCells r
theorem nameCells_snoc (l : List (ByteArray × Nat)) (x : ByteArray × Nat) : nameCells (l ++ [x]) = nameCells l ++ [.string x.1, .int .i64 ((x.2 : Nat) : Int)] := by
  induction l with
  | nil => rfl
  | cons y l ih => simp [nameCells, ih]
def plainNames (l : List (ByteArray × Nat)) : List (List UInt8 × Nat) := l.map fun x => (x.1.data.toList, x.2)
def addN (pre : List (List UInt8 × Nat)) : Res (List (List UInt8 × Nat)) → Res (List (List UInt8 × Nat))
  | .ok ns r => .ok (pre ++ ns) r
  | .err c a => .err c a
/-- A slice of names, in memory from block 'base' on. -/
def NamesAt (w : World) (base : Nat) (v : Value) (ns : List (List UInt8 × Nat)) : Prop :=
  ∃ bs : List (ByteArray × Nat), plainNames bs = ns ∧ w.ownsRow base 78 2 v bs.length (nameCells bs)

/-- What an error number stands for. -/
def errOf (c : Nat) (aT aD : Addr) : Addr := if c = 3 then aD else aT

def paramsPost (r : Res (List (List UInt8 × Nat))) (w : World) (pb rb : Nat) (s : ByteArray) (aT aD : Addr) (d : Nat) (e : Ending) (w' : World) : Prop :=
  PT pb rb w w' ∧ match r with
  | .err c a => e = .returned (.tuple #[.slice none 0 0, wrongV a (errOf c aT aD)])
  | .ok ns rest => ∃ v q, e = .returned (.tuple #[v, .nilIface]) ∧ NamesAt w' w.heap.size v ns ∧ Pz w' pb rb s aT aD q d ∧ IsToks s.data.toList q rest

theorem Tryz.infoName : (Tryz.prog.info? 78).map (fun i => (i.zero, i.size, i.bytes)) = some (some (.agg #[.string ⟨#[]⟩, .int .i64 0]), 2, 24) := by kernel_rfl

theorem cell_two_new (w : World) (x y : Value) (t : TypeId) : ∀ j u, [x, y][j]? = some u → (w.alloc (.cells #[x, y] t)).cell? ((⟨w.heap.size, 0, none⟩ : Addr).add j) = some u := by
  intro j u hj
  match j, hj with
  | 0, hj => simp at hj; subst hj; simp [Addr.add]
  | 1, hj => simp at hj; subst hj; simp [Addr.add]
  | j + 2, hj => simp at hj

set_option maxHeartbeats 1000000 in
theorem parameters_open {w : World} {pb rb : Nat} {s : ByteArray} {aT aD : Addr} {p d : Nat} (h : Pz w pb rb s aT aD p d) {t : Tok} {ts : List Tok} (hts : IsToks s.data.toList p (t :: ts)) (hd : d ≠ 16) (hk : t.k = .opn) :
    Calls Tryz.prog 169 #[.pointer (some ⟨pb, 0, none⟩)] w (paramsPost (pP ts) w pb rb s aT aD d) := by
  have cn := next_good h hts (by rw [hk]; decide)
  have r1 := h.rdr
  have hlen := hts.len (by rw [len_data]; exact h.hp)
  rw [len_data] at hlen
  have hs2 := h.hs
  have hlt := h.lt
  have h15 := h.h1
  simp only [List.length_cons] at hlen
  rw [hk] at cn
  clear hts
  go_enter Tryz.func169, Tryz.ntmps169
  go_wp2_with (first
    | (go_at_call 121; refine cn.mono ?_; rintro e w1 ⟨bd, rfl, hbd, hbz, hpt, q, hz, hq⟩)
    | (go_at_call 166; refine (enter_ok (hz.alloc _) t.at_ bd hd).mono ?_; rintro e w2 ⟨rfl, hpt2, hz2'⟩))
  have hq2 := hq (by decide)
  have hpt3 : PT pb rb w w2 := (hpt.alloc _).trans hpt2
  clear cn hpt hz hpt2 hbd hbz hq r1
  go_loopg [7] ts.length (fun k v wr => ∃ bs ts2 q2, k = ts2.length ∧ bs.length + ts2.length = ts.length ∧ wr.ownsRow w.heap.size 78 2 v bs.length (nameCells bs) ∧ PT pb rb w wr ∧ Pz wr pb rb s aT aD q2 (d + 1) ∧ IsToks s.data.toList q2 ts2 ∧ pP ts = addN (plainNames bs) (pP ts2))
  case atStart =>
    refine ⟨[], ts, q, rfl, by simp, World.ownsRow_nil _ _ _ _, hpt3, hz2', hq2, ?_⟩
    cases pP ts <;> rfl
  case round =>
    obtain ⟨bs, ts2, q2, rfl, hcount, hown, hptr, hzr, hq3, heq⟩ := hrel
    obtain ⟨t2, ts3, rfl⟩ := hq3.ne
    have r1 := hzr.rdr
    have HE : Aside (pP ts = addN (plainNames bs) (pP (t2 :: ts3))) := heq
    clear heq
    have hltr := hzr.lt
    have hszr := hptr.size
    simp only [List.length_cons] at hcount
    by_cases hbad : t2.k = .bad
    · have cn := next_bad hzr hq3 hbad
      have hP : pP ts = .err 2 t2.at_ := by rw [HE.out]; simp [pP, hbad, isNameT, addN]
      rw [hP]
      go_wp2_with (go_at_call 121; refine cn.mono ?_; rintro e w3 ⟨rfl, hpt5⟩)
      go_ret2
      exact ⟨(hptr.trans hpt5).alloc _, rfl⟩
    have cn := next_good hzr hq3 hbad
    by_cases hcls : t2.k = .cls
    · have hP : pP ts = .ok (plainNames bs) ts3 := by rw [HE.out]; simp [pP, hcls, addN]
      rw [hP]
      rw [hcls] at cn
      clear HE
      go_wp2_with (first
        | (go_at_call 121; refine cn.mono ?_; rintro e w3 ⟨bd3, rfl, hbd, hbz, hpt5, q5, hz5, hq5⟩)
        | (go_at_call 212; refine (leave_ok (hz5.alloc _) t2.at_ bd3).mono ?_; rintro e w4 ⟨rfl, hpt6, hz6⟩))
      go_ret2
      have own4 : w4.ownsRow w.heap.size 78 2 _ bs.length (nameCells bs) := owns_touch hown ((hpt5.alloc _).trans hpt6) (fun k hk => by rintro (g | g) <;> omega)
      exact ⟨(hptr.trans hpt5).alloc _ |>.trans hpt6, _, q5, rfl, ⟨bs, rfl, own4⟩, hz6, hq5 (by decide)⟩
    have hk2 : ¬ kcode t2.k = 2 := by revert hcls; cases t2.k <;> simp [kcode]
    cases hnm : isNameT t2
    · have hP : pP ts = .err 2 t2.at_ := by rw [HE.out]; simp [pP, hcls, hnm, addN]
      rw [hP]
      clear HE
      go_wp2_with (first
        | (go_at_call 121; refine cn.mono ?_; rintro e w3 ⟨bd3, rfl, hbd, hbz, hpt5, q5, hz5, hq5⟩)
        | (go_at_call 211; refine (nameOf_no (kcode t2.k) t2.at_ bd3 _ aT (hz5.alloc _).eT (by rw [isName_tok hbd]; exact hnm)).mono ?_; rintro e w4 ⟨rfl, hb6⟩))
      go_ret2
      exact ⟨(((hptr.trans hpt5).alloc _).below hb6).alloc _, rfl⟩
    · have hw := isNameT_word hnm
      have hP : pP ts = addN (plainNames bs) (consN (t2.body, t2.at_) (pP ts3)) := by rw [HE.out]; simp [pP, hcls, hnm]
      have HP : Aside (pP ts = addN (plainNames bs) (consN (t2.body, t2.at_) (pP ts3))) := hP
      clear hP HE
      go_wp2_with (first
        | (go_at_call 121; refine cn.mono ?_; rintro e w3 ⟨bd3, rfl, hbd, hbz, hpt5, q5, hz5, hq5⟩)
        | (go_at_call 211; refine (nameOf_ok (kcode K.word) t2.at_ bd3 _ (by rw [← hw, isName_tok hbd]; exact hnm)).mono ?_; rintro e w4 ⟨rfl, hb6⟩
           have own4 : w4.ownsRow w.heap.size 78 2 _ bs.length (nameCells bs) := owns_touch hown ((hpt5.alloc _).trans (PT.of_below (pb := pb) (rb := rb) hb6)) (fun k hk => by rintro (g | g) <;> omega)
           have pt4 : PT pb rb w w4 := ((hptr.trans hpt5).alloc _).below hb6
           have z4 : Pz w4 pb rb s aT aD q5 (d + 1) := (hz5.alloc _).keep hb6)
        | (at_builtin; obtain ⟨i0, hi, hz0, hz1, hz2⟩ := info_parts Tryz.infoName; refine wpList_append_own _ rfl _ _ 79 rfl w.heap.size 78 i0 (.agg #[.string ⟨#[]⟩, .int .i64 0]) 2 24 Tryz.underlying79 hi hz0 hz1 hz2 rfl (by decide) _ _ _ rfl ((own4.alloc _).alloc _) ⟨w4.heap.size + 1, 0, none⟩ 1 1 [.string bd3, .int .i64 ((t2.at_ : Nat) : Int)] rfl rfl ?_ (fun x hx => by simp at hx; rcases hx with rfl | rfl <;> rfl) (by unfold maxLen; omega) (by omega) (by simp; have := pt4.size; omega) ?_; (have := cell_two_new (w4.alloc (Obj.cells #[.string bd3, .int .i64 ((t2.at_ : Nat) : Int)] 78)) (.string bd3) (.int .i64 ((t2.at_ : Nat) : Int)) 78; simpa using this); intro v' w6 hown' hgrow hnil; clear hi hz0 hz1 hz2))
      go_roundg ts3.length
      case measure => simp
      case rel =>
        have hrow : ∀ k, Value.ownBlock _ = some k → w.heap.size ≤ k := fun k hk => (own4.lt k hk).1
        refine ⟨bs ++ [(bd3, t2.at_)], ts3, q5, rfl, by simp; omega, ?_, ((pt4.alloc _).alloc _).grown hgrow hrow, ((z4.alloc _).alloc _).grown hgrow (fun k hk => by have := hrow k hk; omega), hq5 (by rw [hw]; decide), ?_⟩
        · rw [nameCells_snoc, List.length_append]
          exact hown'
        · rw [HP.out]
          have e1 : bd3.data.toList = t2.body := by rw [hbd, hw]; rfl
          have e2 : plainNames (bs ++ [(bd3, t2.at_)]) = plainNames bs ++ [(t2.body, t2.at_)] := by simp [plainNames, e1]
          rw [e2]
          cases pP ts3 <;> simp [addN, consN]
theorem parameters_other {w : World} {pb rb : Nat} {s : ByteArray} {aT aD : Addr} {p d : Nat} (h : Pz w pb rb s aT aD p d) {t : Tok} {ts : List Tok} (hts : IsToks s.data.toList p (t :: ts)) (hk : t.k ≠ .opn) :
    Calls Tryz.prog 169 #[.pointer (some ⟨pb, 0, none⟩)] w (paramsPost (.err 2 t.at_) w pb rb s aT aD d) := by
  have r1 := h.rdr
  by_cases hbad : t.k = .bad
  · have cn := next_bad h hts hbad
    go_enter Tryz.func169, Tryz.ntmps169
    go_wp2_with (go_at_call 121; refine cn.mono ?_; rintro e w3 ⟨rfl, hpt5⟩)
    go_ret2
    exact ⟨hpt5.alloc _, rfl⟩
  · have cn := next_good h hts hbad
    have hk1 : ¬ kcode t.k = 1 := by revert hk; cases t.k <;> simp [kcode]
    go_enter Tryz.func169, Tryz.ntmps169
    go_wp2_with (first
      | (go_at_call 121; refine cn.mono ?_; rintro e w1 ⟨bd, rfl, hbd, hbz, hpt, q, hz, hq⟩)
      | (go_at_call 166; refine (enter_no (hz.alloc _) (kcode t.k) t.at_ bd hk1).mono ?_; rintro e w2 ⟨rfl, hb2⟩))
    go_ret2
    exact ⟨(hpt.alloc _).below hb2, rfl⟩
end Go.Proofs.YtdiefbahmcihlaaGreatDoor
