/-
  The reference: number; exprs as parts in memory.
-/
import Derived.Test.YtdiefbahmcihlaaGreatDoorRefE
import Derived.Test.YtdiefbahmcihlaaGreatDoorVal
import Derived.Maps.AppendAt
import Derived.Laws.BytesString
import Derived.Lib.Strings
namespace Go.Proofs.YtdiefbahmcihlaaGreatDoor
open Go.RowKit
attribute [local go_sem ↓] Go.wp_at_zero Go.wp_at_succ

theorem dig_bd {ds : List UInt8} (hd : ∀ c ∈ ds, digit c = true) (hl : ds.length ≤ 9) (k : Nat) : 0 ≤ digitsVal (ds.take k) ∧ digitsVal (ds.take k) < 1000000000 :=
  digits_9 (fun c hc => hd c (List.mem_of_mem_take hc)) (by rw [List.length_take]; omega)
theorem take_snocF (l : List UInt8) (k : Nat) (h : k < l.length) : digitsVal (l.take (k + 1)) = 10 * digitsVal (l.take k) + ((l[k].toNat : Int) - 48) := by
  rw [List.take_succ_eq_append_getElem h]
  unfold digitsVal
  rw [List.foldl_append]
  rfl
set_option maxHeartbeats 1000000 in
theorem number_plain (s : ByteArray) (w : World) (h0 : 0 < s.size) (h9 : s.size ≤ 9) (hd : ∀ k (h : k < s.size), digit s[k] = true) (hd2 : ∀ c ∈ s.data.toList, digit c = true) :
    Calls Tryz.prog 147 #[.string s] w fun e w' => e = .returned (.int .i64 (digitsVal s.data.toList)) ∧ w' = w := by
  have HB : Aside (∀ k, 0 ≤ digitsVal (s.data.toList.take k) ∧ digitsVal (s.data.toList.take k) < 1000000000) := fun k => dig_bd hd2 (by simpa using h9) k
  have HD : Aside (∀ k (h : k < s.size), digit s[k] = true) := hd
  have hs0 := hd 0 h0
  simp [digit, UInt8.le_iff_toNat_le] at hs0
  have hm0 : (((s[0].toNat : Nat) : Int) == 45) = false := by rw [beq_eq_false_iff_ne]; omega
  clear hd hd2 hs0
  go_enter Tryz.func147, Tryz.ntmps147
  go_wp2
  go_loop [3, 4] (fun n i => ∃ k : Nat, n = .int .i64 (digitsVal (s.data.toList.take k)) ∧ i = .int .i64 k ∧ k ≤ s.size) (fun _ i => s.size - (intOf i).toNat)
  case atStart => exact ⟨0, rfl, rfl, by omega⟩
  case round =>
    obtain ⟨k, rfl, rfl, hk⟩ := hrel
    by_cases hlt : k < s.size
    · have hl : k < s.data.toList.length := by simpa using hlt
      have hsn := take_snocF s.data.toList k hl
      have hel : s.data.toList[k]'hl = s[k] := rfl
      rw [hel] at hsn
      have hdk := HD.out k hlt
      simp [digit, UInt8.le_iff_toNat_le] at hdk
      have hb1 : (48 : Int) ≤ (s[k].toNat : Int) := by omega
      have hb2 : (s[k].toNat : Int) ≤ 57 := by omega
      have hne : (((s[k].toNat : Nat) : Int) != 45) = true := by rw [bne_iff_ne]; omega
      have HS : Aside (digitsVal (s.data.toList.take (k + 1)) = 10 * digitsVal (s.data.toList.take k) + ((s[k].toNat : Int) - 48)) := hsn
      obtain ⟨hg1, hg2⟩ := HB.out k
      clear hsn hel hdk
      generalize digitsVal (s.data.toList.take k) = Z at *
      go_wp2
      go_round
      case rel => exact ⟨k + 1, by rw [HS.out], by go_num, by omega⟩
      case measure => simp [intOf]; omega
    · have hT : s.data.toList.take k = s.data.toList := List.take_of_length_le (by simp; omega)
      go_wp2
      go_ret
      exact ⟨rfl, rfl⟩
set_option maxHeartbeats 1000000 in
theorem number_minus (s : ByteArray) (w : World) (h0 : 0 < s.size) (h9 : s.size ≤ 10) (hm0 : (((s[0].toNat : Nat) : Int) == 45) = true) (T : List UInt8) (hTl : T.length + 1 = s.size) (hTe : ∀ k (h1 : k < T.length) (h2 : k + 1 < s.size), T[k] = s[k + 1]) (hd2 : ∀ c ∈ T, digit c = true) :
    Calls Tryz.prog 147 #[.string s] w fun e w' => e = .returned (.int .i64 (-digitsVal T)) ∧ w' = w := by
  have HB : Aside (∀ k, 0 ≤ digitsVal (T.take k) ∧ digitsVal (T.take k) < 1000000000) := fun k => dig_bd hd2 (by omega) k
  have HTL : Aside (T.length + 1 = s.size) := hTl
  have HTE : Aside (∀ k (h1 : k < T.length) (h2 : k + 1 < s.size), T[k] = s[k + 1]) := hTe
  have HD : Aside (∀ c ∈ T, digit c = true) := hd2
  clear hTl hTe hd2
  go_enter Tryz.func147, Tryz.ntmps147
  go_wp2
  go_loop [3, 4] (fun n i => ∃ k : Nat, n = .int .i64 (digitsVal (T.take (k - 1))) ∧ i = .int .i64 k ∧ k ≤ s.size) (fun _ i => s.size - (intOf i).toNat)
  case atStart => exact ⟨0, rfl, rfl, by omega⟩
  case round =>
    obtain ⟨k, rfl, rfl, hk⟩ := hrel
    by_cases hlt : k < s.size
    · cases k with
      | zero =>
        have hmn : (((s[0].toNat : Nat) : Int) != 45) = false := by rw [bne, hm0]; rfl
        go_wp2
        go_round
        case rel => exact ⟨1, rfl, rfl, by omega⟩
        case measure => simp [intOf]; omega
      | succ k =>
        have hl : k < T.length := by have := HTL.out; omega
        have hsn := take_snocF T k hl
        have hel := HTE.out k hl hlt
        have hdk := HD.out T[k] (List.getElem_mem _)
        rw [hel] at hsn hdk
        simp [digit, UInt8.le_iff_toNat_le] at hdk
        have hb1 : (48 : Int) ≤ (s[k + 1].toNat : Int) := by omega
        have hb2 : (s[k + 1].toNat : Int) ≤ 57 := by omega
        have hne : (((s[k + 1].toNat : Nat) : Int) != 45) = true := by rw [bne_iff_ne]; omega
        have HS : Aside (digitsVal (T.take (k + 1)) = 10 * digitsVal (T.take k) + ((s[k + 1].toNat : Int) - 48)) := hsn
        obtain ⟨hg1, hg2⟩ := HB.out k
        clear hsn hel hdk
        rw [show k + 1 - 1 = k by omega]
        generalize digitsVal (T.take k) = Z at *
        go_wp2
        go_round
        case rel => exact ⟨k + 1 + 1, by rw [show k + 1 + 1 - 1 = k + 1 by omega, HS.out], by go_num, by omega⟩
        case measure => simp [intOf]; omega
    · have hT : T.take (k - 1) = T := List.take_of_length_le (by have := HTL.out; omega)
      have hB := HB.out T.length
      rw [List.take_length] at hB
      obtain ⟨hg1, hg2⟩ := hB
      go_wp2
      go_ret
      exact ⟨rfl, rfl⟩
theorem number_any (s : ByteArray) (w : World) (h : NumT s.data.toList) :
    Calls Tryz.prog 147 #[.string s] w fun e w' => e = .returned (.int .i64 (numVal s.data.toList)) ∧ w' = w := by
  obtain ⟨ds, hb, h1, h9, hd⟩ := h
  have hsz : s.data.toList.length = s.size := by simp
  rcases hb with hb | hb
  · have hst : startsB 45 s.data.toList = false := by
      rw [hb]
      cases ds with
      | nil => simp at h1
      | cons c r =>
        have hc := hd c (by simp)
        cases hs : startsB 45 (c :: r) with
        | false => rfl
        | true =>
          simp [startsB] at hs
          rw [hs] at hc
          exact absurd hc (by decide)
    have hv : numVal s.data.toList = digitsVal s.data.toList := by unfold numVal; rw [hst]; simp
    rw [hv]
    have hl := congrArg List.length hb
    exact number_plain s w (by omega) (by omega) (fun k hk => hd _ (by rw [← hb]; exact List.getElem_mem (show k < s.data.toList.length by omega))) (by rw [hb]; exact hd)
  · have hl := congrArg List.length hb
    rw [List.length_cons] at hl
    have hv : numVal s.data.toList = -digitsVal ds := by
      rw [hb]
      unfold numVal
      simp [startsB]
    rw [hv]
    refine number_minus s w (by omega) (by omega) ?_ ds (by omega) (fun k h1 h2 => ?_) hd
    · have : s.data.toList[0]'(by omega) = 45 := by simp [hb]
      have e : s[0]'(by omega) = 45 := this
      rw [e]
      rfl
    · have : s.data.toList[k + 1]'(by omega) = ds[k] := by simp [hb]
      exact this.symm

/-- A part. -/
structure PartV where
  op : ByteArray
  n : Int
  s : ByteArray
  at_ : Nat
  kv : Value
def PartV.zero : PartV := ⟨⟨#[]⟩, 0, ⟨#[]⟩, 0, .slice none 0 0⟩
def partCells : List PartV → List Value
  | [] => []
  | p :: r => .string p.op :: .int .i64 p.n :: .string p.s :: .int .i64 ((p.at_ : Nat) : Int) :: p.kv :: partCells r
theorem partCells_snoc (l : List PartV) (p : PartV) : partCells (l ++ [p]) = partCells l ++ [.string p.op, .int .i64 p.n, .string p.s, .int .i64 ((p.at_ : Nat) : Int), p.kv] := by
  induction l with
  | nil => rfl
  | cons y l ih => simp [partCells, ih]
theorem partCells_len (l : List PartV) : (partCells l).length = l.length * 5 := by
  induction l with
  | nil => rfl
  | cons y l ih => simp [partCells, ih]; omega
theorem partCells_at : ∀ (l : List PartV) (j : Nat) (p : PartV), l[j]? = some p → (partCells l)[j * 5]? = some (.string p.op) ∧ (partCells l)[j * 5 + 1]? = some (.int .i64 p.n) ∧ (partCells l)[j * 5 + 2]? = some (.string p.s) ∧ (partCells l)[j * 5 + 3]? = some (.int .i64 ((p.at_ : Nat) : Int)) ∧ (partCells l)[j * 5 + 4]? = some p.kv
  | [], j, p, hj => by simp at hj
  | x :: r, 0, p, hj => by simp at hj; subst hj; exact ⟨rfl, rfl, rfl, rfl, rfl⟩
  | x :: r, j + 1, p, hj => by
    have := partCells_at r j p (by simpa using hj)
    rw [show (j + 1) * 5 = j * 5 + 1 + 1 + 1 + 1 + 1 by omega]
    simpa [partCells] using this
theorem partCells_set : ∀ (l : List PartV) (j : Nat) (p : PartV), j < l.length → (((((partCells l).set (j * 5) (.string p.op)).set (j * 5 + 1) (.int .i64 p.n)).set (j * 5 + 2) (.string p.s)).set (j * 5 + 3) (.int .i64 ((p.at_ : Nat) : Int))).set (j * 5 + 4) p.kv = partCells (l.set j p)
  | [], j, p, hj => by simp at hj
  | x :: r, 0, p, hj => rfl
  | x :: r, j + 1, p, hj => by
    have := partCells_set r j p (by simpa using hj)
    rw [show (j + 1) * 5 = j * 5 + 1 + 1 + 1 + 1 + 1 by omega]
    simp only [partCells, List.set_cons_succ, ← this]
theorem Tryz.infoPart : (Tryz.prog.info? 319).map (fun i => (i.zero, i.size, i.bytes)) = some (some (.agg #[.string ⟨#[]⟩, .int .i64 0, .string ⟨#[]⟩, .int .i64 0, .slice none 0 0]), 5, 72) := by kernel_rfl
theorem Tryz.infoIntR : (Tryz.prog.info? 3).map (fun i => (i.zero, i.size, i.bytes)) = some (some (.int .i64 0), 1, 8) := by kernel_rfl

/-- The reader with its parts. -/
structure Rp (w : World) (base rb tb cap : Nat) (l : List (Tok × ByteArray)) (fv pv : Value) (k d e a : Nat) (ps : List PartV) : Prop where
  z : Rz w rb tb cap l fv pv k d e a
  own : w.ownsRow base 319 5 pv ps.length (partCells ps)
  nr : some rb ≠ pv.ownBlock
  nt : some tb ≠ pv.ownBlock
  hb : base ≤ w.heap.size
section
variable {w : World} {base rb tb cap : Nat} {l : List (Tok × ByteArray)} {fv pv : Value} {k d e a : Nat} {ps : List PartV}
theorem Rp.below {w' : World} (h : Rp w base rb tb cap l fv pv k d e a ps) (hb : Below w.heap.size w w') : Rp w' base rb tb cap l fv pv k d e a ps :=
  ⟨h.z.below hb, owns_keep h.own fun g hg => hb.block g (h.own.lt g hg).2, h.nr, h.nt, Nat.le_trans h.hb hb.size⟩
theorem Rp.alloc (h : Rp w base rb tb cap l fv pv k d e a ps) (o : Obj) : Rp (w.alloc o) base rb tb cap l fv pv k d e a ps := h.below (below1 w o)
theorem Rp.drew (h : Rp w base rb tb cap l fv pv k d e a ps) : Rp w.drew base rb tb cap l fv pv k d e a ps := ⟨h.z.keep rfl rfl, h.own.drew, h.nr, h.nt, h.hb⟩
theorem Rp.touch {w' : World} {k' d' e' a' : Nat} (h : Rp w base rb tb cap l fv pv k d e a ps) (ht : Touch (· = rb) w w') (hz : Rz w' rb tb cap l fv pv k' d' e' a') : Rp w' base rb tb cap l fv pv k' d' e' a' ps :=
  ⟨hz, owns_keep h.own fun g hg => ht.block g (h.own.lt g hg).2 fun e => h.nr (by rw [hg, e]), h.nr, h.nt, Nat.le_trans h.hb ht.size⟩
theorem Rp.other (h : Rp w base rb tb cap l fv pv k d e a ps) {B : Nat} (h1 : rb ≠ B) (h2 : tb ≠ B) (h3 : some B ≠ pv.ownBlock) (j : Nat) (v : Value) : Rp (w.setCell ⟨B, j, none⟩ v) base rb tb cap l fv pv k d e a ps :=
  ⟨h.z.set_other h1 h2 j v, owns_keep h.own fun g hg => Below.heap_setCell w ⟨B, j, none⟩ v g fun e => h3 (by rw [hg, e]), h.nr, h.nt, by simpa [World.setCell] using h.hb⟩
theorem Rp.lt (h : Rp w base rb tb cap l fv pv k d e a ps) : rb < w.heap.size ∧ tb < w.heap.size ∧ ∀ g, pv.ownBlock = some g → base ≤ g ∧ g < w.heap.size := ⟨h.z.lt.1, h.z.lt.2, h.own.lt⟩
end

mutual
/-- The part of a place stands for an expr. -/
def RepP (w : World) (D : Nat → Prop) (ps : List PartV) (lo : Nat) : Ex → Nat → Prop
  | .num b, i => lo ≤ i ∧ ∃ p, ps[i]? = some p ∧ p.op.data.toList = [49] ∧ p.n = numVal b ∧ p.kv = .slice none 0 0
  | .txt b, i => lo ≤ i ∧ ∃ p, ps[i]? = some p ∧ p.op.data.toList = [39] ∧ p.s.data.toList = b ∧ p.kv = .slice none 0 0
  | .var n a, i => lo ≤ i ∧ ∃ p, ps[i]? = some p ∧ p.op.data.toList = [97] ∧ p.s.data.toList = n ∧ p.at_ = a ∧ p.kv = .slice none 0 0
  | .form wd n a ks, i => lo ≤ i ∧ ∃ p js, ps[i]? = some p ∧ p.op.data.toList = wd ∧ p.s.data.toList = n ∧ p.at_ = a ∧ RowAt w D 3 1 p.kv js.length (js.map fun j : Nat => Value.int .i64 (j : Int)) ∧ RepPs w D ps lo ks js
def RepPs (w : World) (D : Nat → Prop) (ps : List PartV) (lo : Nat) : List Ex → List Nat → Prop
  | [], js => js = []
  | e :: es, js => ∃ j r, js = j :: r ∧ RepP w D ps lo e j ∧ RepPs w D ps lo es r
end
mutual
theorem RepP.map {w w' : World} {D D' : Nat → Prop} {ps ps' : List PartV} {lo lo' : Nat} (hp : ∀ i p, lo ≤ i → ps[i]? = some p → ps'[i]? = some p) (hlo : lo' ≤ lo) (hR : ∀ sl n vs, RowAt w D 3 1 sl n vs → RowAt w' D' 3 1 sl n vs) : ∀ {e : Ex} {i : Nat}, RepP w D ps lo e i → RepP w' D' ps' lo' e i
  | .num b, i, h => by rw [RepP] at h ⊢; obtain ⟨h1, p, h2, h3⟩ := h; exact ⟨Nat.le_trans hlo h1, p, hp i p h1 h2, h3⟩
  | .txt b, i, h => by rw [RepP] at h ⊢; obtain ⟨h1, p, h2, h3⟩ := h; exact ⟨Nat.le_trans hlo h1, p, hp i p h1 h2, h3⟩
  | .var n a, i, h => by rw [RepP] at h ⊢; obtain ⟨h1, p, h2, h3⟩ := h; exact ⟨Nat.le_trans hlo h1, p, hp i p h1 h2, h3⟩
  | .form wd n a ks, i, h => by
    rw [RepP] at h ⊢
    obtain ⟨h1, p, js, h2, h3, h4, h5, h6, h7⟩ := h
    exact ⟨Nat.le_trans hlo h1, p, js, hp i p h1 h2, h3, h4, h5, hR _ _ _ h6, RepPs.map hp hlo hR h7⟩
theorem RepPs.map {w w' : World} {D D' : Nat → Prop} {ps ps' : List PartV} {lo lo' : Nat} (hp : ∀ i p, lo ≤ i → ps[i]? = some p → ps'[i]? = some p) (hlo : lo' ≤ lo) (hR : ∀ sl n vs, RowAt w D 3 1 sl n vs → RowAt w' D' 3 1 sl n vs) : ∀ {es : List Ex} {js : List Nat}, RepPs w D ps lo es js → RepPs w' D' ps' lo' es js
  | [], js, h => by rw [RepPs] at h ⊢; exact h
  | e :: es, js, h => by
    rw [RepPs] at h ⊢
    obtain ⟨j, r, h1, h2, h3⟩ := h
    exact ⟨j, r, h1, RepP.map hp hlo hR h2, RepPs.map hp hlo hR h3⟩
end
theorem RepPs.snoc {w : World} {D : Nat → Prop} {ps : List PartV} {lo : Nat} {e : Ex} {j : Nat} (he : RepP w D ps lo e j) : ∀ {es : List Ex} {js : List Nat}, RepPs w D ps lo es js → RepPs w D ps lo (es ++ [e]) (js ++ [j])
  | [], js, h => by
    rw [RepPs] at h
    subst h
    rw [List.nil_append, List.nil_append, RepPs]
    exact ⟨j, [], rfl, he, by rw [RepPs]⟩
  | x :: es, js, h => by
    rw [RepPs] at h
    obtain ⟨i, r, rfl, h2, h3⟩ := h
    rw [List.cons_append, List.cons_append, RepPs]
    exact ⟨i, r ++ [j], rfl, h2, RepPs.snoc he h3⟩
theorem RepPs.length {w : World} {D : Nat → Prop} {ps : List PartV} {lo : Nat} : ∀ {es : List Ex} {js : List Nat}, RepPs w D ps lo es js → js.length = es.length
  | [], js, h => by rw [RepPs] at h; rw [h]; rfl
  | e :: es, js, h => by
    rw [RepPs] at h
    obtain ⟨j, r, rfl, _, h3⟩ := h
    simp [RepPs.length h3]

/-- The tokens from the one at hand on. -/
def toksAt (l : List (Tok × ByteArray)) (k : Nat) : List Tok := (l.drop k).map (·.1)
theorem toksAt_cons {l : List (Tok × ByteArray)} {k : Nat} (h : k < l.length) : toksAt l k = l[k].1 :: toksAt l (k + 1) := by
  unfold toksAt
  rw [List.drop_eq_getElem_cons h, List.map_cons]
theorem toksAt_len (l : List (Tok × ByteArray)) (k : Nat) : (toksAt l k).length = l.length - k := by simp [toksAt]
/-- A row of parts is where it was, or new. -/
def Moved (w : World) (pv pv' : Value) : Prop := pv'.ownBlock = pv.ownBlock ∨ ∃ g, pv'.ownBlock = some g ∧ w.heap.size ≤ g
/-- Tokens as they come out of a text. -/
structure TokWF (l : List (Tok × ByteArray)) : Prop where
  tx : TokTexts l
  more : ∀ j (hj : j < l.length), l[j].1.k ≠ .eof → l[j].1.k ≠ .bad → j + 1 < l.length
  num : ∀ j (hj : j < l.length), l[j].1.k = .num → NumT l[j].2.data.toList
  txt : ∀ j (hj : j < l.length), l[j].1.k = .txt → 2 ≤ l[j].2.size
  sz : ∀ j (hj : j < l.length), l[j].2.size ≤ 2000
  noshape : ∀ j (hj : j < l.length), l[j].1.k ≠ .word → shapeL l[j].2.data.toList = none

/-- What expr leaves. -/
def xPost (r : Res Ex) (base rb tb cap : Nat) (l : List (Tok × ByteArray)) (fv pv : Value) (k d a : Nat) (ps : List PartV) (w : World) (e : Ending) (w' : World) : Prop :=
  Touch (fun g => g = rb ∨ some g = pv.ownBlock) w w' ∧ e = .returned (.int .i64 ((ps.length : Nat) : Int)) ∧
  match r with
  | .err c p => ∃ k' d' pv' ps', Rp w' base rb tb cap l fv pv' k' d' c p ps' ∧ ps.length < ps'.length ∧ Moved w pv pv' ∧ c ≠ 0
  | .ok ex rest => ∃ k' pv' ps', Rp w' base rb tb cap l fv pv' k' d 0 a ps' ∧ toksAt l k' = rest ∧ ps <+: ps' ∧ ps.length < ps'.length ∧ Moved w pv pv' ∧ RepP w' (fun g => w.heap.size ≤ g ∧ some g ≠ pv'.ownBlock) ps' ps.length ex ps.length ∧ ps'.length + (l.length - k') ≤ ps.length + (l.length - k)
/-- A part as a value. -/
abbrev partV (p : PartV) : Value := .agg #[.string p.op, .int .i64 p.n, .string p.s, .int .i64 ((p.at_ : Nat) : Int), p.kv]
/-- What form leaves. -/
def fPost (r : Res Ex) (base rb tb cap : Nat) (l : List (Tok × ByteArray)) (fv pv : Value) (k d a : Nat) (ps : List PartV) (w : World) (e : Ending) (w' : World) : Prop :=
  Touch (fun g => g = rb ∨ some g = pv.ownBlock) w w' ∧
  match r with
  | .err c q => ∃ k' d' pv' ps' p ad n cp, e = .returned (partV p) ∧ p.kv = .slice ad n cp ∧ Rp w' base rb tb cap l fv pv' k' d' c q ps' ∧ ps.length ≤ ps'.length ∧ Moved w pv pv' ∧ c ≠ 0
  | .ok ex rest => ∃ k' pv' ps' p ad n cp wd nm at_ ks js, e = .returned (partV p) ∧ p.kv = .slice ad n cp ∧ Rp w' base rb tb cap l fv pv' k' d 0 a ps' ∧ toksAt l k' = rest ∧ ps <+: ps' ∧ Moved w pv pv' ∧ ex = .form wd nm at_ ks ∧ p.op.data.toList = wd ∧ p.s.data.toList = nm ∧ p.at_ = at_ ∧ RowAt w' (fun g => w.heap.size ≤ g ∧ some g ≠ pv'.ownBlock) 3 1 p.kv js.length (js.map fun j : Nat => Value.int .i64 (j : Int)) ∧ RepPs w' (fun g => w.heap.size ≤ g ∧ some g ≠ pv'.ownBlock) ps' ps.length ks js ∧ ps'.length + (l.length - k') + 1 ≤ ps.length + (l.length - k)
end Go.Proofs.YtdiefbahmcihlaaGreatDoor

/-
  The reference: expr: what is laid down.
-/
namespace Go.Proofs.YtdiefbahmcihlaaGreatDoor
open Go.RowKit
attribute [local go_sem ↓] Go.wp_at_zero Go.wp_at_succ

theorem inner_extract (s : ByteArray) : (s.extract 1 (s.size - 1)).data.toList = innerL s.data.toList := by
  rw [Lib.extract_data]
  unfold innerL
  rw [show s.data.toList.length = s.size by simp, show s.size - 1 - 1 = s.size - 2 by omega]
section
variable {w : World} {base rb tb cap : Nat} {l : List (Tok × ByteArray)} {fv pv : Value} {k d e a : Nat} {ps : List PartV}
theorem cell_five_new2 (w : World) (o : Obj) (x1 x2 x3 x4 x5 : Value) (t : TypeId) : ∀ j v, [x1, x2, x3, x4, x5][j]? = some v → ((w.alloc o).alloc (.cells #[x1, x2, x3, x4, x5] t)).cell? ((⟨w.heap.size + 1, 0, none⟩ : Addr).add j) = some v := by
  intro j v hj
  match j, hj with
  | 0, hj => simp at hj; subst hj; simp [Addr.add]
  | 1, hj => simp at hj; subst hj; simp [Addr.add]
  | 2, hj => simp at hj; subst hj; simp [Addr.add]
  | 3, hj => simp at hj; subst hj; simp [Addr.add]
  | 4, hj => simp at hj; subst hj; simp [Addr.add]
  | j + 5, hj => simp at hj
/-- Behind the append. -/
theorem Rp.app {X w3 : World} {v' : Value} (h : Rp X base rb tb cap l fv pv k d e a ps) (hown' : w3.ownsRow base 319 5 v' (ps.length + 1) (partCells ps ++ [.string ⟨#[]⟩, .int .i64 0, .string ⟨#[]⟩, .int .i64 0, .slice none 0 0])) (hgrow : X.grownBy w3 pv.ownBlock) (hat : v'.ownBlock = pv.ownBlock ∨ v'.ownBlock = some X.heap.size) :
    Rz w3 rb tb cap l fv pv k d e a ∧ Rp (w3.setCell ⟨rb, 6, none⟩ v') base rb tb cap l fv v' k d e a (ps ++ [PartV.zero]) := by
  have hz : Rz w3 rb tb cap l fv pv k d e a := h.z.keep (hgrow.block rb h.z.lt.1 h.nr) (hgrow.block tb h.z.lt.2 h.nt)
  have n1 : some rb ≠ v'.ownBlock := by
    rcases hat with g | g
    · rw [g]; exact h.nr
    · rw [g]; intro e; have := h.z.lt.1; simp at e; omega
  have n2 : some tb ≠ v'.ownBlock := by
    rcases hat with g | g
    · rw [g]; exact h.nt
    · rw [g]; intro e; have := h.z.lt.2; simp at e; omega
  refine ⟨hz, hz.set6 v', ?_, n1, n2, ?_⟩
  · refine owns_keep ?_ fun g hg => Below.heap_setCell w3 ⟨rb, 6, none⟩ v' g fun e => n1 (by rw [hg]; exact congrArg some e.symm)
    rw [List.length_append, partCells_snoc]
    exact hown'
  · have := h.hb; have := hgrow.size; simp [World.setCell]; omega
/-- A part is laid down. -/
theorem Rp.put {g c' : Nat} {qs : List PartV} (h : Rp w base rb tb cap l fv (.slice (some ⟨g, 0, none⟩) qs.length c') k d e a qs) (n : Nat) (hn : n < qs.length) (p : PartV) :
    Rp (((((w.setCell ⟨g, n * 5, none⟩ (.string p.op)).setCell ⟨g, n * 5 + 1, none⟩ (.int .i64 p.n)).setCell ⟨g, n * 5 + 2, none⟩ (.string p.s)).setCell ⟨g, n * 5 + 3, none⟩ (.int .i64 ((p.at_ : Nat) : Int))).setCell ⟨g, n * 5 + 4, none⟩ p.kv) base rb tb cap l fv (.slice (some ⟨g, 0, none⟩) qs.length c') k d e a (qs.set n p) := by
  have n1 : rb ≠ g := fun e => h.nr (by rw [e]; rfl)
  have n2 : tb ≠ g := fun e => h.nt (by rw [e]; rfl)
  refine ⟨((((h.z.set_other n1 n2 _ _).set_other n1 n2 _ _).set_other n1 n2 _ _).set_other n1 n2 _ _).set_other n1 n2 _ _, ?_, h.nr, h.nt, by simpa [World.setCell] using h.hb⟩
  have := ((((((h.own.stored (n * 5) (.string p.op)).1).stored (n * 5 + 1) (.int .i64 p.n)).1.stored (n * 5 + 2) (.string p.s)).1.stored (n * 5 + 3) (.int .i64 ((p.at_ : Nat) : Int))).1.stored (n * 5 + 4) p.kv).1
  rw [partCells_set _ _ _ hn] at this
  rw [List.length_set]
  exact this
theorem touch_put {S : Nat → Prop} {w X : World} {g : Nat} (h : Touch S w X) (hg : S g ∨ w.heap.size ≤ g) (n : Nat) (x1 x2 x3 x4 x5 : Value) : Touch S w (((((X.setCell ⟨g, n * 5, none⟩ x1).setCell ⟨g, n * 5 + 1, none⟩ x2).setCell ⟨g, n * 5 + 2, none⟩ x3).setCell ⟨g, n * 5 + 3, none⟩ x4).setCell ⟨g, n * 5 + 4, none⟩ x5) :=
  ((((h.setCell (p := ⟨g, n * 5, none⟩) hg _).setCell (p := ⟨g, n * 5 + 1, none⟩) hg _).setCell (p := ⟨g, n * 5 + 2, none⟩) hg _).setCell (p := ⟨g, n * 5 + 3, none⟩) hg _).setCell (p := ⟨g, n * 5 + 4, none⟩) hg _
theorem Tx.below2 {w1 w3 : World} {c : Int} {s : ByteArray} {p : Nat} {o : Obj} {row : Option Nat} (h : Tx (w1.alloc (tokO c s p)) w1.heap.size c s p) (hg : ((w1.alloc (tokO c s p)).alloc o).grownBy w3 row) (hr : ∀ g, row = some g → g < w1.heap.size) : Tx w3 w1.heap.size c s p :=
  ⟨by rw [hg.block w1.heap.size (by simp; omega) (fun e => absurd (hr _ e.symm) (by omega)), (below1 _ o).block _ (by simp)]; exact h.blk⟩
/-- A text of one byte. -/
def oneB (c : Int) : ByteArray := ByteArray.empty.push (UInt8.ofNat c.toNat)
theorem conv_one (X : World) (c : Int) (b : Nat) (hb : b = X.heap.size) : (convert 177 9 (.slice (some ⟨b, 0, none⟩) 1 1)).run Tryz.prog (X.alloc (.cells #[.int .u8 c] 5)) = .ok (.string (oneB c)) (X.alloc (.cells #[.int .u8 c] 5)) := by
  subst hb
  rw [run_convert_bytes_string _ _ _ 5 _ _ _ Tryz.underlying177 Tryz.underlying5 Tryz.underlying9]
  exact run_bytesToString _ _ 1 1 [c] (by simp [loadCells, loadCellsFrom, go_sem])
/-- A part's variable. -/
structure Px (W : World) (B : Nat) (p : PartV) : Prop where
  blk : W.heap[B]? = some (.cells #[.string p.op, .int .i64 p.n, .string p.s, .int .i64 ((p.at_ : Nat) : Int), p.kv] 319)
theorem Px.touch {S : Nat → Prop} {W W' : World} {B : Nat} {p : PartV} (h : Px W B p) (ht : Touch S W W') (hne : ¬ S B) : Px W' B p := ⟨by rw [ht.block B (block_lt h.blk) hne]; exact h.blk⟩
theorem Px.facts {W : World} {B : Nat} {p : PartV} (h : Px W B p) : W.cell? ⟨B, 0, none⟩ = some (.string p.op) ∧ W.cell? ⟨B, 1, none⟩ = some (.int .i64 p.n) ∧ W.cell? ⟨B, 2, none⟩ = some (.string p.s) ∧ W.cell? ⟨B, 3, none⟩ = some (.int .i64 ((p.at_ : Nat) : Int)) ∧ W.cell? ⟨B, 4, none⟩ = some p.kv := by
  have hb := h.blk
  refine ⟨?_, ?_, ?_, ?_, ?_⟩ <;> (unfold World.cell?; rw [hb]; rfl)
theorem Px.free {W : World} {B : Nat} {p : PartV} (h : Px W B p) (j : Nat) : W.frozen? ⟨B, j, none⟩ = false := by
  have hb := h.blk
  unfold World.frozen?; rw [hb]; simp
theorem Rp.slice (h : Rp w base rb tb cap l fv pv k d e a ps) (hn : 0 < ps.length) : ∃ g c', pv = .slice (some ⟨g, 0, none⟩) ps.length c' ∧ ps.length ≤ c' ∧ c' ≤ maxLen := by
  rcases h.own.2 with ⟨_, h0⟩ | ⟨g, c', cur, hv, hg, hh, hc, hm, hz, ht⟩
  · omega
  · exact ⟨g, c', hv, hc, hm⟩
/-- The cells of the part that is to be laid down. -/
theorem Rp.spots {g c' : Nat} {qs : List PartV} (h : Rp w base rb tb cap l fv (.slice (some ⟨g, 0, none⟩) qs.length c') k d e a qs) (n : Nat) (hn : n < qs.length) :
    (∃ y0 y1 y2 y3 y4, w.cell? ⟨g, n * 5, none⟩ = some y0 ∧ w.cell? ⟨g, n * 5 + 1, none⟩ = some y1 ∧ w.cell? ⟨g, n * 5 + 2, none⟩ = some y2 ∧ w.cell? ⟨g, n * 5 + 3, none⟩ = some y3 ∧ w.cell? ⟨g, n * 5 + 4, none⟩ = some y4) ∧ ∀ j, w.frozen? ⟨g, j, none⟩ = false := by
  obtain ⟨a0, a1, a2, a3, a4⟩ := partCells_at qs n qs[n] (List.getElem?_eq_getElem hn)
  refine ⟨⟨.string qs[n].op, .int .i64 qs[n].n, .string qs[n].s, .int .i64 ((qs[n].at_ : Nat) : Int), qs[n].kv, ?_, ?_, ?_, ?_, ?_⟩, fun j => h.own.frozenAt j⟩
  · rw [h.own.cellAt _ (by omega)]; exact a0
  · rw [h.own.cellAt _ (by omega)]; exact a1
  · rw [h.own.cellAt _ (by omega)]; exact a2
  · rw [h.own.cellAt _ (by omega)]; exact a3
  · rw [h.own.cellAt _ (by omega)]; exact a4
theorem Px.new (X : World) (p : PartV) {B : Nat} (hB : B = X.heap.size) : Px (X.alloc (.cells #[.string p.op, .int .i64 p.n, .string p.s, .int .i64 ((p.at_ : Nat) : Int), p.kv] 319)) B p := by subst hB; exact ⟨heap_alloc_new _ _⟩
/-- What is asked ahead of the last store. -/
theorem tail_facts {w5 : World} {ad : Option Addr} {n cap3 : Nat} {qs : List PartV} (h : Rp w5 base rb tb cap l fv (.slice ad n cap3) k d e a qs) (i : Nat) (hi : i < qs.length) :
    ∃ gb, ad = some ⟨gb, 0, none⟩ ∧ n = qs.length ∧ n ≤ cap3 ∧ cap3 ≤ maxLen ∧ rb ≠ gb ∧ gb < w5.heap.size ∧ w5.cell? ⟨rb, 6, none⟩ = some (.slice ad n cap3) ∧ (∃ y0 y1 y2 y3 y4, w5.cell? ⟨gb, i * 5, none⟩ = some y0 ∧ w5.cell? ⟨gb, i * 5 + 1, none⟩ = some y1 ∧ w5.cell? ⟨gb, i * 5 + 2, none⟩ = some y2 ∧ w5.cell? ⟨gb, i * 5 + 3, none⟩ = some y3 ∧ w5.cell? ⟨gb, i * 5 + 4, none⟩ = some y4) ∧ ∀ j, w5.frozen? ⟨gb, j, none⟩ = false := by
  obtain ⟨gb, cb, hsl, hc1, hc2⟩ := h.slice (by omega)
  simp only [Value.slice.injEq] at hsl
  obtain ⟨rfl, rfl, rfl⟩ := hsl
  have hs := h.spots i hi
  have hg := h.lt.2.2 gb rfl
  exact ⟨gb, rfl, rfl, hc1, hc2, fun e => h.nr (by rw [e]; rfl), hg.2, h.z.cells.2.2.2.2.2.2, hs.1, hs.2⟩
/-- The world with a part laid down. -/
abbrev put5 (X : World) (g n : Nat) (p : PartV) : World := ((((X.setCell ⟨g, n * 5, none⟩ (.string p.op)).setCell ⟨g, n * 5 + 1, none⟩ (.int .i64 p.n)).setCell ⟨g, n * 5 + 2, none⟩ (.string p.s)).setCell ⟨g, n * 5 + 3, none⟩ (.int .i64 ((p.at_ : Nat) : Int))).setCell ⟨g, n * 5 + 4, none⟩ p.kv
theorem set_last (ps : List PartV) (z p : PartV) : (ps ++ [z]).set ps.length p = ps ++ [p] := by
  rw [List.set_append_right _ _ (Nat.le_refl _)]; simp
theorem moved_touch {w _X : World} {pv : Value} {gb n c : Nat} (mv : Moved w pv (.slice (some ⟨gb, 0, none⟩) n c)) : some gb = pv.ownBlock ∨ w.heap.size ≤ gb := by
  rcases mv with h | ⟨g, h, h2⟩
  · exact Or.inl h
  · cases h; exact Or.inr h2
/-- expr's end at a leaf. -/
theorem close_leaf {w5 : World} {gb n cb k' : Nat} {p : PartV} {ex : Ex} (hT : Touch (fun g => g = rb ∨ some g = pv.ownBlock) w w5) (r5 : Rp w5 base rb tb cap l fv (.slice (some ⟨gb, 0, none⟩) n cb) k' d 0 a (ps ++ [PartV.zero])) (mv : Moved w pv (.slice (some ⟨gb, 0, none⟩) n cb)) (hk : k < k') (hkl : k < l.length)
    (hrep : ∀ (W : World) (D : Nat → Prop), RepP W D (ps ++ [p]) ps.length ex ps.length) :
    xPost (.ok ex (toksAt l k')) base rb tb cap l fv pv k d a ps w (.returned (.int .i64 ((ps.length : Nat) : Int))) (put5 w5 gb ps.length p) := by
  have hn : n = (ps ++ [PartV.zero]).length := by
    rcases r5.own.2 with ⟨h, _⟩ | ⟨g, c, cur, hv, _⟩
    · cases h
    · simp only [Value.slice.injEq] at hv; exact hv.2.1
  subst hn
  have hp := r5.put ps.length (by simp) p
  rw [set_last] at hp
  rw [show (ps ++ [PartV.zero]).length = (ps ++ [p]).length by simp] at hp mv
  refine ⟨touch_put hT ?_ _ _ _ _ _ _, rfl, k', _, ps ++ [p], hp, rfl, List.prefix_append _ _, by simp, mv, hrep _ _, by simp; omega⟩
  rcases moved_touch (_X := w) mv with g | g
  · exact Or.inl (Or.inr g)
  · exact Or.inr g
/-- expr's end with an error. -/
theorem close_err {w5 : World} {gb n cb k' d' c q : Nat} {qs : List PartV} {p : PartV} (hT : Touch (fun g => g = rb ∨ some g = pv.ownBlock) w w5) (r5 : Rp w5 base rb tb cap l fv (.slice (some ⟨gb, 0, none⟩) n cb) k' d' c q qs) (mv : Moved w pv (.slice (some ⟨gb, 0, none⟩) n cb)) (hlen : ps.length < qs.length) (hc : c ≠ 0) :
    xPost (.err c q) base rb tb cap l fv pv k d a ps w (.returned (.int .i64 ((ps.length : Nat) : Int))) (put5 w5 gb ps.length p) := by
  have hn : n = qs.length := by
    rcases r5.own.2 with ⟨h, _⟩ | ⟨g, c, cur, hv, _⟩
    · cases h
    · simp only [Value.slice.injEq] at hv; exact hv.2.1
  subst hn
  have hp := r5.put ps.length hlen p
  refine ⟨touch_put hT ?_ _ _ _ _ _ _, rfl, k', d', _, qs.set ps.length p, hp, by simpa using hlen, mv, hc⟩
  rcases moved_touch (_X := w) mv with g | g
  · exact Or.inl (Or.inr g)
  · exact Or.inr g
theorem xPost_drew {r : Res Ex} {e : Ending} {w' : World} (h : xPost r base rb tb cap l fv pv k d a ps w e w') : xPost r base rb tb cap l fv pv k d a ps w e w'.drew := by
  obtain ⟨h1, h2, h3⟩ := h
  refine ⟨h1.drew, h2, ?_⟩
  cases r with
  | err c q =>
    obtain ⟨k', d', pv', ps', h4, h5⟩ := h3
    exact ⟨k', d', pv', ps', h4.drew, h5⟩
  | ok ex rest =>
    obtain ⟨k', pv', ps', h4, h5, h6, h7, h8, h9, h10⟩ := h3
    exact ⟨k', pv', ps', h4.drew, h5, h6, h7, h8, RepP.map (w := w') (w' := w'.drew) (fun _ _ _ h => h) (Nat.le_refl _) (fun _ _ _ h => h) h9, h10⟩
/-- The row of parts behind an append, out of what the append says. -/
theorem moved_app {w X : World} {pv v' : Value} (hat : v'.ownBlock = pv.ownBlock ∨ v'.ownBlock = some X.heap.size) (hX : w.heap.size ≤ X.heap.size) : Moved w pv v' := by
  rcases hat with h | h
  · exact Or.inl h
  · exact Or.inr ⟨_, h, hX⟩
/-- What has turned up to the first call behind the append. -/
theorem touch_app {w1 w3 : World} {o1 o2 : Obj} {v' : Value} (hb : Below w.heap.size w w1) (hg : ((w1.alloc o1).alloc o2).grownBy w3 pv.ownBlock) (_hr : rb < w.heap.size) : Touch (fun g => g = rb ∨ some g = pv.ownBlock) w (w3.setCell ⟨rb, 6, none⟩ v') := by
  have h1 : Touch (fun g => g = rb ∨ some g = pv.ownBlock) w ((w1.alloc o1).alloc o2) := ((Touch.of_below hb).alloc o1).alloc o2
  have h2 : Touch (fun g => g = rb ∨ some g = pv.ownBlock) ((w1.alloc o1).alloc o2) w3 := ⟨hg.os, hg.tape, hg.output, hg.size, fun j hj hS => hg.block j hj fun e => hS (Or.inr e)⟩
  exact (h1.trans h2).setCell (p := ⟨rb, 6, none⟩) (Or.inl (Or.inl rfl)) _
theorem Px.setS {W : World} {B : Nat} {p : PartV} (h : Px W B p) (x : ByteArray) : Px (W.setCell ⟨B, 2, none⟩ (.string x)) B ⟨p.op, p.n, x, p.at_, p.kv⟩ := ⟨by rw [set_block h.blk]; rfl⟩
theorem Px.set5 {W : World} {B : Nat} {p : PartV} (h : Px W B p) (q : PartV) : Px (((((W.setCell ⟨B, 0, none⟩ (.string q.op)).setCell ⟨B, 1, none⟩ (.int .i64 q.n)).setCell ⟨B, 2, none⟩ (.string q.s)).setCell ⟨B, 3, none⟩ (.int .i64 ((q.at_ : Nat) : Int))).setCell ⟨B, 4, none⟩ q.kv) B q := ⟨by rw [set_block (set_block (set_block (set_block (set_block h.blk _) _) _) _) _]; rfl⟩
theorem Px.below {W W' : World} {B : Nat} {p : PartV} (h : Px W B p) (hb : Below W.heap.size W W') : Px W' B p := ⟨by rw [hb.block B (block_lt h.blk)]; exact h.blk⟩
theorem Rp.other5 {B : Nat} (h : Rp w base rb tb cap l fv pv k d e a ps) (h1 : rb ≠ B) (h2 : tb ≠ B) (h3 : some B ≠ pv.ownBlock) (x0 x1 x2 x3 x4 : Value) : Rp (((((w.setCell ⟨B, 0, none⟩ x0).setCell ⟨B, 1, none⟩ x1).setCell ⟨B, 2, none⟩ x2).setCell ⟨B, 3, none⟩ x3).setCell ⟨B, 4, none⟩ x4) base rb tb cap l fv pv k d e a ps :=
  ((((h.other h1 h2 h3 _ _).other h1 h2 h3 _ _).other h1 h2 h3 _ _).other h1 h2 h3 _ _).other h1 h2 h3 _ _
theorem Touch.set5 {S : Nat → Prop} {w X : World} {B : Nat} (h : Touch S w X) (hB : w.heap.size ≤ B) (x0 x1 x2 x3 x4 : Value) : Touch S w (((((X.setCell ⟨B, 0, none⟩ x0).setCell ⟨B, 1, none⟩ x1).setCell ⟨B, 2, none⟩ x2).setCell ⟨B, 3, none⟩ x3).setCell ⟨B, 4, none⟩ x4) :=
  ((((h.setCell (p := ⟨B, 0, none⟩) (Or.inr hB) _).setCell (p := ⟨B, 1, none⟩) (Or.inr hB) _).setCell (p := ⟨B, 2, none⟩) (Or.inr hB) _).setCell (p := ⟨B, 3, none⟩) (Or.inr hB) _).setCell (p := ⟨B, 4, none⟩) (Or.inr hB) _
/-- expr's end at a form. -/
theorem close_form {w5 wf W : World} {gb n cb k' : Nat} {qs : List PartV} {p : PartV} {wd nm : List UInt8} {at_ : Nat} {ks : List Ex} {js : List Nat} (hT : Touch (fun g => g = rb ∨ some g = pv.ownBlock) w W) (r5 : Rp W base rb tb cap l fv (.slice (some ⟨gb, 0, none⟩) n cb) k' d 0 a qs) (mv : Moved w pv (.slice (some ⟨gb, 0, none⟩) n cb)) (hw5 : w.heap.size ≤ w5.heap.size)
    (hpre : ps ++ [PartV.zero] <+: qs) (h1 : p.op.data.toList = wd) (h2 : p.s.data.toList = nm) (h3 : p.at_ = at_)
    (hrow : RowAt wf (fun g => w5.heap.size ≤ g ∧ some g ≠ (Value.slice (some ⟨gb, 0, none⟩) n cb).ownBlock) 3 1 p.kv js.length (js.map fun j : Nat => Value.int .i64 (j : Int))) (hrep : RepPs wf (fun g => w5.heap.size ≤ g ∧ some g ≠ (Value.slice (some ⟨gb, 0, none⟩) n cb).ownBlock) qs (ps.length + 1) ks js)
    (hW : ∀ g, w5.heap.size ≤ g → g < wf.heap.size → W.heap[g]? = wf.heap[g]?)
    (hsz : qs.length + (l.length - k') + 1 ≤ ps.length + 1 + (l.length - k)) :
    xPost (.ok (.form wd nm at_ ks) (toksAt l k')) base rb tb cap l fv pv k d a ps w (.returned (.int .i64 ((ps.length : Nat) : Int))) (put5 W gb ps.length p) := by
  have hn : n = qs.length := by
    rcases r5.own.2 with ⟨h, _⟩ | ⟨g, c, cur, hv, _⟩
    · cases h
    · simp only [Value.slice.injEq] at hv; exact hv.2.1
  subst hn
  have hlen : ps.length < qs.length := by have := hpre.length_le; simp at this; omega
  have hp := r5.put ps.length hlen p
  obtain ⟨r, hr⟩ := hpre
  have hset : qs.set ps.length p = ps ++ p :: r := by
    rw [← hr, List.append_assoc, List.set_append_right _ _ (Nat.le_refl _)]; simp
  have hkeep : ∀ g, w5.heap.size ≤ g → some g ≠ (Value.slice (some ⟨gb, 0, none⟩) qs.length cb).ownBlock → g < wf.heap.size → (put5 W gb ps.length p).heap[g]? = wf.heap[g]? := by
    intro g hg hne hlt
    have hgb : g ≠ gb := fun e => hne (by rw [e]; rfl)
    rw [← hW g hg hlt]
    simp only [put5]
    rw [Below.heap_setCell _ ⟨gb, ps.length * 5 + 4, none⟩ _ g hgb, Below.heap_setCell _ ⟨gb, ps.length * 5 + 3, none⟩ _ g hgb, Below.heap_setCell _ ⟨gb, ps.length * 5 + 2, none⟩ _ g hgb, Below.heap_setCell _ ⟨gb, ps.length * 5 + 1, none⟩ _ g hgb, Below.heap_setCell _ ⟨gb, ps.length * 5, none⟩ _ g hgb]
  have hR : ∀ sl m vs, RowAt wf (fun g => w5.heap.size ≤ g ∧ some g ≠ (Value.slice (some ⟨gb, 0, none⟩) qs.length cb).ownBlock) 3 1 sl m vs → RowAt (put5 W gb ps.length p) (fun g => w.heap.size ≤ g ∧ some g ≠ (Value.slice (some ⟨gb, 0, none⟩) (qs.set ps.length p).length cb).ownBlock) 3 1 sl m vs := by
    intro sl m vs h
    refine (h.keep (w' := put5 W gb ps.length p) fun g hg hlt => hkeep g hg.1 hg.2 hlt).weaken fun g hg => ⟨Nat.le_trans hw5 hg.1.1, hg.1.2⟩
  rw [show qs.length = (qs.set ps.length p).length by simp] at hp mv
  refine ⟨touch_put hT ?_ _ _ _ _ _ _, rfl, k', _, qs.set ps.length p, hp, rfl, ?_, by simpa using hlen, mv, ?_, by simp; omega⟩
  · rcases moved_touch (_X := w) mv with g | g
    · exact Or.inl (Or.inr g)
    · exact Or.inr g
  · rw [hset]; exact List.prefix_append _ _
  · rw [RepP]
    refine ⟨Nat.le_refl _, p, js, by rw [List.getElem?_set_self hlen], h1, h2, h3, hR _ _ _ hrow, ?_⟩
    refine RepPs.map (lo := ps.length + 1) (fun i q hi hq => ?_) (by omega) hR hrep
    rw [List.getElem?_set_ne (by omega)]; exact hq
theorem touch_trans2 {S T : Nat → Prop} {w X Y : World} (h : Touch S w X) (h2 : Touch T X Y) (hT : ∀ g, T g → S g ∨ w.heap.size ≤ g) : Touch S w Y :=
  ⟨h2.os.trans h.os, h2.tape.trans h.tape, h2.output.trans h.output, Nat.le_trans h.size h2.size, fun j hj hS => (h2.block j (Nat.lt_of_lt_of_le hj h.size) fun t => by rcases hT j t with g | g; exact hS g; omega).trans (h.block j hj hS)⟩
theorem Moved.trans {w X : World} {a b c : Value} (h : Moved w a b) (h2 : Moved X b c) (hs : w.heap.size ≤ X.heap.size) : Moved w a c := by
  rcases h2 with g | ⟨g, g1, g2⟩
  · rcases h with e | ⟨e, e1, e2⟩
    · exact Or.inl (g.trans e)
    · exact Or.inr ⟨e, g.trans e1, e2⟩
  · exact Or.inr ⟨g, g1, Nat.le_trans hs g2⟩
theorem Moved.own {w : World} {a b : Value} (h : Moved w a b) (g : Nat) (hg : some g = b.ownBlock) : some g = a.ownBlock ∨ w.heap.size ≤ g := by
  rcases h with e | ⟨e, e1, e2⟩
  · exact Or.inl (hg.trans e)
  · rw [e1] at hg; cases hg; exact Or.inr e2
/-- Where the row of parts lies behind form. -/
theorem moved_lt {w3 X : World} {v3 v5 : Value} {gb : Nat} (h : Moved X v3 v5) (hg : some gb = v5.ownBlock) (h3 : ∀ g, v3.ownBlock = some g → g < w3.heap.size) (hX : X.heap.size = w3.heap.size + 2) : gb < w3.heap.size ∨ w3.heap.size + 2 ≤ gb := by
  rcases h.own gb hg with e | e
  · exact Or.inl (h3 gb e.symm)
  · exact Or.inr (by omega)
theorem set5_far {X : World} {B g : Nat} (h : g ≠ B) (x0 x1 x2 x3 x4 : Value) : (((((X.setCell ⟨B, 0, none⟩ x0).setCell ⟨B, 1, none⟩ x1).setCell ⟨B, 2, none⟩ x2).setCell ⟨B, 3, none⟩ x3).setCell ⟨B, 4, none⟩ x4).heap[g]? = X.heap[g]? := by
  rw [Below.heap_setCell _ ⟨B, 4, none⟩ _ g h, Below.heap_setCell _ ⟨B, 3, none⟩ _ g h, Below.heap_setCell _ ⟨B, 2, none⟩ _ g h, Below.heap_setCell _ ⟨B, 1, none⟩ _ g h, Below.heap_setCell _ ⟨B, 0, none⟩ _ g h]
end
end Go.Proofs.YtdiefbahmcihlaaGreatDoor
