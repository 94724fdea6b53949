/-
  The reference: form: the state of its loop.
-/
import Derived.Test.YtdiefbahmcihlaaGreatDoorRefF
namespace Go.Proofs.YtdiefbahmcihlaaGreatDoor
open Go.RowKit

abbrev kidsV (js : List Nat) : List Value := js.map fun j : Nat => Value.int .i64 (j : Int)
structure FS (base rb tb cap : Nat) (l : List (Tok × ByteArray)) (fv pv : Value) (ps : List PartV) (w : World) (RB PB : Nat) (op s : ByteArray) (at_ : Nat) (wr : World) (kad : Option Addr) (kcp : Nat) (js : List Nat) (k' d' e' a' : Nat) (pad : Option Addr) (pcp : Nat) (ps' : List PartV) : Prop where
  ht : Touch (fun g => g = rb ∨ some g = pv.ownBlock) w wr
  pp : Px wr PB ⟨op, 0, s, at_, .slice kad js.length kcp⟩
  pr : Px wr RB PartV.zero
  ko : wr.ownsRow w.heap.size 3 1 (.slice kad js.length kcp) js.length (kidsV js)
  kn : ∀ g, some g = (Value.slice kad js.length kcp).ownBlock → some g ≠ (Value.slice pad ps'.length pcp).ownBlock ∧ g ≠ PB ∧ g ≠ RB
  rp : Rp wr base rb tb cap l fv (.slice pad ps'.length pcp) k' d' e' a' ps'
  le : ps.length ≤ ps'.length
  mv : Moved w pv (.slice pad ps'.length pcp)
  nP : some PB ≠ (Value.slice pad ps'.length pcp).ownBlock
  nR : some RB ≠ (Value.slice pad ps'.length pcp).ownBlock
  hP : w.heap.size ≤ PB
  hR : w.heap.size ≤ RB
  hPR : PB ≠ RB
  hw : rb < w.heap.size ∧ tb < w.heap.size
section
variable {base rb tb cap : Nat} {l : List (Tok × ByteArray)} {fv pv : Value} {ps : List PartV} {w : World} {RB PB : Nat} {op s : ByteArray} {at_ : Nat} {wr : World} {kad : Option Addr} {kcp : Nat} {js : List Nat} {k' d' e' a' : Nat} {pad : Option Addr} {pcp : Nat} {ps' : List PartV}
theorem FS.below {X : World} (h : FS base rb tb cap l fv pv ps w RB PB op s at_ wr kad kcp js k' d' e' a' pad pcp ps') (hb : Below wr.heap.size wr X) : FS base rb tb cap l fv pv ps w RB PB op s at_ X kad kcp js k' d' e' a' pad pcp ps' :=
  { h with
    ht := h.ht.trans (Touch.of_below hb)
    pp := h.pp.below hb
    pr := h.pr.below hb
    ko := owns_keep h.ko fun g hg => hb.block g (h.ko.lt g hg).2
    rp := h.rp.below hb }
theorem FS.over {X : World} {k2 d2 e2 a2 : Nat} (h : FS base rb tb cap l fv pv ps w RB PB op s at_ wr kad kcp js k' d' e' a' pad pcp ps') (ht : Touch (· = rb) wr X) (hz : Rz X rb tb cap l fv (.slice pad ps'.length pcp) k2 d2 e2 a2) : FS base rb tb cap l fv pv ps w RB PB op s at_ X kad kcp js k2 d2 e2 a2 pad pcp ps' :=
  { h with
    ht := h.ht.trans (ht.mono fun g hg => Or.inl hg)
    pp := h.pp.touch ht (by have := h.hP; have := h.hw; show ¬ PB = rb; omega)
    pr := h.pr.touch ht (by have := h.hR; have := h.hw; show ¬ RB = rb; omega)
    ko := owns_keep h.ko fun g hg => ht.block g (h.ko.lt g hg).2 (by have := (h.ko.lt g hg).1; have := h.hw; show ¬ g = rb; omega)
    rp := h.rp.touch ht hz }
/-- One kid more. -/
theorem FS.kid {w2 w3 : World} {o : Obj} {qad kad2 : Option Addr} {qcp kcp2 k2 d2 e2 a2 : Nat} {qs : List PartV} (h : FS base rb tb cap l fv pv ps w RB PB op s at_ wr kad kcp js k' d' e' a' pad pcp ps')
    (ht2 : Touch (fun g => g = rb ∨ some g = (Value.slice pad ps'.length pcp).ownBlock) wr w2) (rp2 : Rp w2 base rb tb cap l fv (.slice qad qs.length qcp) k2 d2 e2 a2 qs) (hlen : ps'.length < qs.length) (mv2 : Moved wr (.slice pad ps'.length pcp) (.slice qad qs.length qcp))
    (own3 : w3.ownsRow w.heap.size 3 1 (.slice kad2 (js.length + 1) kcp2) (js.length + 1) (kidsV js ++ [.int .i64 ((ps'.length : Nat) : Int)])) (hg3 : (w2.alloc o).grownBy w3 (Value.slice kad js.length kcp).ownBlock) (hat3 : (Value.slice kad2 (js.length + 1) kcp2).ownBlock = (Value.slice kad js.length kcp).ownBlock ∨ (Value.slice kad2 (js.length + 1) kcp2).ownBlock = some (w2.alloc o).heap.size) :
    FS base rb tb cap l fv pv ps w RB PB op s at_ (w3.setCell ⟨PB, 4, none⟩ (.slice kad2 (js.length + 1) kcp2)) kad2 kcp2 (js ++ [ps'.length]) k2 d2 e2 a2 qad qcp qs ∧ Px w3 PB ⟨op, 0, s, at_, .slice kad js.length kcp⟩ ∧ (∀ g, w.heap.size ≤ g → some g ≠ (Value.slice pad ps'.length pcp).ownBlock → some g ≠ (Value.slice kad js.length kcp).ownBlock → g < wr.heap.size → g ≠ PB → (w3.setCell ⟨PB, 4, none⟩ (.slice kad2 (js.length + 1) kcp2)).heap[g]? = wr.heap[g]?) ∧ (∀ g, wr.heap.size ≤ g → g < w2.heap.size → some g ≠ (Value.slice kad js.length kcp).ownBlock → g ≠ PB → (w3.setCell ⟨PB, 4, none⟩ (.slice kad2 (js.length + 1) kcp2)).heap[g]? = w2.heap[g]?) ∧ (∀ g, some g = (Value.slice kad2 (js ++ [ps'.length]).length kcp2).ownBlock → some g = (Value.slice kad js.length kcp).ownBlock ∨ w2.heap.size ≤ g) := by
  have hw := h.hw
  have hP := h.hP
  have hR := h.hR
  have sz2 := ht2.size
  have sz3 := hg3.size
  simp at sz3
  have ltP := block_lt h.pp.blk
  have ltR := block_lt h.pr.blk
  have ltk : ∀ g, some g = (Value.slice kad js.length kcp).ownBlock → w.heap.size ≤ g ∧ g < wr.heap.size := fun g hg => h.ko.lt g hg.symm
  have nPw : ¬ (PB = rb ∨ some PB = (Value.slice pad ps'.length pcp).ownBlock) := by rintro (g | g); omega; exact h.nP g
  have nRw : ¬ (RB = rb ∨ some RB = (Value.slice pad ps'.length pcp).ownBlock) := by rintro (g | g); omega; exact h.nR g
  have kP : some PB ≠ (Value.slice kad js.length kcp).ownBlock := fun e => (h.kn PB e).2.1 rfl
  have kR : some RB ≠ (Value.slice kad js.length kcp).ownBlock := fun e => (h.kn RB e).2.2 rfl
  -- from wr to w3
  have b3 : ∀ g, g < w2.heap.size → some g ≠ (Value.slice kad js.length kcp).ownBlock → w3.heap[g]? = w2.heap[g]? := fun g hg hn => by
    rw [hg3.block g (by simp; omega) hn, (below1 w2 o).block g hg]
  have pp2 : Px w3 PB ⟨op, 0, s, at_, .slice kad js.length kcp⟩ := ⟨by rw [b3 PB (by omega) kP, ht2.block PB ltP nPw]; exact h.pp.blk⟩
  have pr2 : Px w3 RB PartV.zero := ⟨by rw [b3 RB (by omega) kR, ht2.block RB ltR nRw]; exact h.pr.blk⟩
  have hlt2 := rp2.lt
  have kq : ∀ g, some g = (Value.slice kad js.length kcp).ownBlock → some g ≠ (Value.slice qad qs.length qcp).ownBlock := by
    intro g hg e
    rcases mv2.own g e with e2 | e2
    · exact (h.kn g hg).1 e2
    · have := (ltk g hg).2; omega
  have nPq : some PB ≠ (Value.slice qad qs.length qcp).ownBlock := fun e => by
    rcases mv2.own PB e with e2 | e2
    · exact h.nP e2
    · omega
  have nRq : some RB ≠ (Value.slice qad qs.length qcp).ownBlock := fun e => by
    rcases mv2.own RB e with e2 | e2
    · exact h.nR e2
    · omega
  have rp3 : Rp w3 base rb tb cap l fv (.slice qad qs.length qcp) k2 d2 e2 a2 qs := by
    have z : Rz w3 rb tb cap l fv (.slice qad qs.length qcp) k2 d2 e2 a2 := rp2.z.keep (b3 rb hlt2.1 fun e => by have := (ltk rb e).1; omega) (b3 tb hlt2.2.1 fun e => by have := (ltk tb e).1; omega)
    exact ⟨z, owns_keep rp2.own fun g hg => b3 g (hlt2.2.2 g hg).2 fun e => kq g e hg.symm, rp2.nr, rp2.nt, by have := rp2.hb; omega⟩
  have hk2 : ∀ g, some g = (Value.slice kad2 (js.length + 1) kcp2).ownBlock → some g ≠ (Value.slice qad qs.length qcp).ownBlock ∧ g ≠ PB ∧ g ≠ RB := by
    intro g hg
    rcases hat3 with e | e
    · rw [e] at hg
      exact ⟨kq g hg, (h.kn g hg).2⟩
    · rw [e] at hg
      simp at hg
      subst hg
      refine ⟨fun e2 => ?_, by omega, by omega⟩
      have := (hlt2.2.2 _ e2.symm).2
      omega
  refine ⟨⟨?_, ⟨?_⟩, ?_, ?_, ?_, ?_, by have := h.le; omega, h.mv.trans mv2 h.ht.size, nPq, nRq, hP, hR, h.hPR, hw⟩, pp2, ?_, ?_, ?_⟩
  · refine Touch.setCell ?_ (p := ⟨PB, 4, none⟩) (Or.inr hP) _
    refine touch_trans2 (touch_trans2 h.ht ht2 ?_) (T := fun g => some g = (Value.slice kad js.length kcp).ownBlock) ⟨?_, ?_, ?_, ?_, ?_⟩ ?_
    · rintro g (e | e)
      · exact Or.inl (Or.inl e)
      · rcases h.mv.own g e with e2 | e2
        · exact Or.inl (Or.inr e2)
        · exact Or.inr e2
    · rw [hg3.os]; rfl
    · rw [hg3.tape]; rfl
    · rw [hg3.output]; rfl
    · omega
    · exact fun g hg hn => b3 g hg hn
    · exact fun g hg => Or.inr (ltk g hg).1
  · rw [set_block pp2.blk]
    simp
  · exact ⟨by rw [Below.heap_setCell _ ⟨PB, 4, none⟩ _ RB h.hPR.symm]; exact pr2.blk⟩
  · rw [List.length_append]
    refine owns_keep ?_ fun g hg => Below.heap_setCell _ ⟨PB, 4, none⟩ _ g (hk2 g (by simpa using hg.symm)).2.1
    simpa [kidsV] using own3
  · intro g hg
    exact hk2 g (by simpa using hg)
  · exact rp3.other (by omega) (by omega) nPq _ _
  · intro g h1 h2 h3 h4 h5
    rw [Below.heap_setCell _ ⟨PB, 4, none⟩ _ g h5, b3 g (by omega) h3]
    exact ht2.block g h4 (by rintro (e | e); omega; exact h2 e)
  · intro g _ h1 h2 h3
    rw [Below.heap_setCell _ ⟨PB, 4, none⟩ _ g h3, b3 g h1 h2]
  · intro g hg
    have hg2 : some g = (Value.slice kad2 (js.length + 1) kcp2).ownBlock := by simpa using hg
    rcases hat3 with e | e
    · rw [e] at hg2; exact Or.inl hg2
    · rw [e] at hg2; simp at hg2; exact Or.inr (by omega)
/-- The loop's relation. -/
def FLoop (base rb tb cap : Nat) (l : List (Tok × ByteArray)) (fv pv : Value) (ps : List PartV) (w : World) (RB PB : Nat) (op s : ByteArray) (at_ : Nat) (dd a B0 G : Nat) (m : Int) (Rr : Res (List Ex)) (gh : Nat) (iv : Value) (wr : World) : Prop :=
  ∃ (kad : Option Addr) (kcp : Nat) (js : List Nat) (k' d' e' a' : Nat) (pad : Option Addr) (pcp : Nat) (ps' : List PartV),
    iv = .int .i64 ((js.length : Nat) : Int) ∧ FS base rb tb cap l fv pv ps w RB PB op s at_ wr kad kcp js k' d' e' a' pad pcp ps' ∧
    ((e' = 0 ∧ gh = l.length - k' + 1 ∧ a' = a ∧ d' = dd ∧ ps <+: ps' ∧ ps'.length + (l.length - k') ≤ B0 ∧ js.length + (l.length - k') ≤ 3000 ∧ ∃ es f, RepPs wr (fun g => w.heap.size ≤ g ∧ some g ≠ (Value.slice pad ps'.length pcp).ownBlock ∧ some g ≠ (Value.slice kad js.length kcp).ownBlock ∧ g ≠ PB) ps' ps.length es js ∧ (toksAt l k').length ≤ f ∧ f ≤ G ∧ (0 ≤ m → (js.length : Int) ≤ m) ∧ Rr = addE es (pL f dd (if m < 0 then m else m - js.length) (toksAt l k')))
     ∨ (e' ≠ 0 ∧ gh = 0 ∧ Rr = .err e' a'))
/-- form's end with an error. -/
theorem fin_err {X : World} {k d a : Nat} (h : FS base rb tb cap l fv pv ps w RB PB op s at_ X kad kcp js k' d' e' a' pad pcp ps') (he : e' ≠ 0) :
    fPost (.err e' a') base rb tb cap l fv pv k d a ps w (.returned (partV ⟨op, 0, s, at_, .slice kad js.length kcp⟩)) (((((X.setCell ⟨RB, 0, none⟩ (.string op)).setCell ⟨RB, 1, none⟩ (.int .i64 0)).setCell ⟨RB, 2, none⟩ (.string s)).setCell ⟨RB, 3, none⟩ (.int .i64 ((at_ : Nat) : Int))).setCell ⟨RB, 4, none⟩ (.slice kad js.length kcp)) := by
  have hw := h.hw
  have hR := h.hR
  refine ⟨h.ht.set5 hR _ _ _ _ _, k', d', _, ps', ⟨op, 0, s, at_, .slice kad js.length kcp⟩, kad, js.length, kcp, rfl, rfl, h.rp.other5 (by omega) (by omega) h.nR _ _ _ _ _, h.le, h.mv, he⟩
/-- form's end. -/
theorem fin_ok {X : World} {k d a : Nat} {es : List Ex} {wd nm : List UInt8} (h : FS base rb tb cap l fv pv ps w RB PB op s at_ X kad kcp js k' d 0 a pad pcp ps') (hop : op.data.toList = wd) (hs : s.data.toList = nm) (hpre : ps <+: ps')
    (hrep : RepPs X (fun g => w.heap.size ≤ g ∧ some g ≠ (Value.slice pad ps'.length pcp).ownBlock ∧ some g ≠ (Value.slice kad js.length kcp).ownBlock ∧ g ≠ RB) ps' ps.length es js) (hsz : ps'.length + (l.length - k') + 1 ≤ ps.length + (l.length - k)) :
    fPost (.ok (.form wd nm at_ es) (toksAt l k')) base rb tb cap l fv pv k d a ps w (.returned (partV ⟨op, 0, s, at_, .slice kad js.length kcp⟩)) (((((X.setCell ⟨RB, 0, none⟩ (.string op)).setCell ⟨RB, 1, none⟩ (.int .i64 0)).setCell ⟨RB, 2, none⟩ (.string s)).setCell ⟨RB, 3, none⟩ (.int .i64 ((at_ : Nat) : Int))).setCell ⟨RB, 4, none⟩ (.slice kad js.length kcp)) := by
  have hw := h.hw
  have hR := h.hR
  refine ⟨h.ht.set5 hR _ _ _ _ _, k', _, ps', ⟨op, 0, s, at_, .slice kad js.length kcp⟩, kad, js.length, kcp, wd, nm, at_, es, js, rfl, rfl, h.rp.other5 (by omega) (by omega) h.nR _ _ _ _ _, rfl, hpre, h.mv, rfl, hop, hs, rfl, ?_, ?_, hsz⟩
  · have r0 : RowAt X (w.heap.size ≤ ·) 3 1 (.slice kad js.length kcp) js.length (kidsV js) := RowAt.of_owns h.ko
    rcases r0 with ⟨q1, q2⟩
    refine ⟨q1, ?_⟩
    rcases q2 with g | ⟨g, c2, cur, hv, hg, hh, r⟩
    · exact Or.inl g
    · have kk := h.kn g (by rw [hv]; rfl)
      exact Or.inr ⟨g, c2, cur, hv, ⟨hg, kk.1⟩, by rw [set5_far kk.2.2]; exact hh, r⟩
  · refine RepPs.map (lo := ps.length) (fun i q hi hq => hq) (Nat.le_refl _) (fun sl m vs hr => ?_) hrep
    exact (hr.keep (w' := _) fun g hg hlt => set5_far hg.2.2.2 _ _ _ _ _).weaken fun g hg => ⟨hg.1.1, hg.1.2.1⟩
/-- What expr does, at so many tokens. -/
def ExDo (base rb tb cap : Nat) (l : List (Tok × ByteArray)) (fv : Value) (a g : Nat) : Prop :=
  ∀ (w : World) (pv : Value) (ps : List PartV) (k d : Nat), Rp w base rb tb cap l fv pv k d 0 a ps → ps.length + (l.length - k) ≤ 3000 → (toksAt l k).length ≤ g + 2 →
    Calls Tryz.prog 102 #[.pointer (some ⟨rb, 0, none⟩)] w (xPost (pE (pL g) d (toksAt l k)) base rb tb cap l fv pv k d a ps w)
/-- What an expr within a form leaves, right or wrong. -/
def exBoth (base rb tb cap : Nat) (l : List (Tok × ByteArray)) (fv pv : Value) (k d a : Nat) (ps : List PartV) (g : Nat) (w : World) (r : Ending) (w2 : World) : Prop :=
  ∃ (k2 d2 e2 a2 : Nat) (qad : Option Addr) (qcp : Nat) (qs : List PartV), r = .returned (.int .i64 ((ps.length : Nat) : Int)) ∧ Touch (fun g => g = rb ∨ some g = pv.ownBlock) w w2 ∧ Rp w2 base rb tb cap l fv (.slice qad qs.length qcp) k2 d2 e2 a2 qs ∧ ps.length < qs.length ∧ Moved w pv (.slice qad qs.length qcp) ∧
    Aside ((e2 = 0 ∧ a2 = a ∧ d2 = d ∧ ps <+: qs ∧ qs.length + (l.length - k2) ≤ ps.length + (l.length - k) ∧ k < k2 ∧ ∃ ex, pE (pL g) d (toksAt l k) = .ok ex (toksAt l k2) ∧ RepP w2 (fun g => w.heap.size ≤ g ∧ some g ≠ (Value.slice qad qs.length qcp).ownBlock) qs ps.length ex ps.length) ∨ (e2 ≠ 0 ∧ pE (pL g) d (toksAt l k) = .err e2 a2))
theorem ex_both {base rb tb cap : Nat} {l : List (Tok × ByteArray)} {fv pv : Value} {k d a : Nat} {ps : List PartV} {g : Nat} {w : World} (IH : ExDo base rb tb cap l fv a g) (h : Rp w base rb tb cap l fv pv k d 0 a ps) (hsz : ps.length + (l.length - k) ≤ 3000) (hg : (toksAt l k).length ≤ g + 2) :
    Calls Tryz.prog 102 #[.pointer (some ⟨rb, 0, none⟩)] w (exBoth base rb tb cap l fv pv k d a ps g w) := by
  refine (IH w pv ps k d h hsz hg).mono ?_
  rintro r w2 ⟨ht, hr, hx⟩
  cases hp : pE (pL g) d (toksAt l k) with
  | err c p =>
    rw [hp] at hx
    obtain ⟨k', d', pv', ps', h1, h2, h3, h4⟩ := hx
    obtain ⟨ad, cp, rfl⟩ := owns_slice h1.own
    exact ⟨k', d', c, p, ad, cp, ps', hr, ht, h1, h2, h3, Or.inr ⟨h4, hp⟩⟩
  | ok ex rest =>
    rw [hp] at hx
    obtain ⟨k', pv', ps', h1, h2, h3, h4, h5, h6, h7⟩ := hx
    obtain ⟨ad, cp, rfl⟩ := owns_slice h1.own
    have hlen := pE_len (fun d m ts es r => pL_len g d m ts es r) hp
    rw [← h2, toksAt_len, toksAt_len] at hlen
    exact ⟨k', d, 0, a, ad, cp, ps', hr, ht, h1, h4, h5, Or.inl ⟨rfl, rfl, rfl, h3, h7, by omega, ex, by rw [hp, h2], h6⟩⟩
/-- The next round behind an expr. -/
theorem FLoop.next {base rb tb cap : Nat} {l : List (Tok × ByteArray)} {fv pv : Value} {ps : List PartV} {w : World} {RB PB : Nat} {op s : ByteArray} {at_ dd a B0 G : Nat} {m : Int} {Rr : Res (List Ex)} {wr W : World} {kad kad2 : Option Addr} {kcp kcp2 : Nat} {js : List Nat} {k' : Nat} {pad qad : Option Addr} {pcp qcp : Nat} {ps' qs : List PartV} {k2 d2 e2 a2 f : Nat} {es : List Ex} {w2 : World}
    (fs : FS base rb tb cap l fv pv ps w RB PB op s at_ wr kad kcp js k' dd 0 a pad pcp ps')
    (fs2 : FS base rb tb cap l fv pv ps w RB PB op s at_ W kad2 kcp2 (js ++ [ps'.length]) k2 d2 e2 a2 qad qcp qs)
    (hkeep : ∀ g, w.heap.size ≤ g → some g ≠ (Value.slice pad ps'.length pcp).ownBlock → some g ≠ (Value.slice kad js.length kcp).ownBlock → g < wr.heap.size → g ≠ PB → W.heap[g]? = wr.heap[g]?)
    (hkeep2 : ∀ g, wr.heap.size ≤ g → g < w2.heap.size → some g ≠ (Value.slice kad js.length kcp).ownBlock → g ≠ PB → W.heap[g]? = w2.heap[g]?)
    (hkid2 : ∀ g, some g = (Value.slice kad2 (js ++ [ps'.length]).length kcp2).ownBlock → some g = (Value.slice kad js.length kcp).ownBlock ∨ w2.heap.size ≤ g)
    (hmv : Moved wr (.slice pad ps'.length pcp) (.slice qad qs.length qcp)) (hww : wr.heap.size ≤ w2.heap.size)
    (hpre : ps <+: ps') (hB : ps'.length + (l.length - k') ≤ B0) (hj : js.length + (l.length - k') ≤ 3000)
    (hrep : RepPs wr (fun g => w.heap.size ≤ g ∧ some g ≠ (Value.slice pad ps'.length pcp).ownBlock ∧ some g ≠ (Value.slice kad js.length kcp).ownBlock ∧ g ≠ PB) ps' ps.length es js)
    (hf1 : (toksAt l k').length ≤ f + 1) (hf2 : f + 1 ≤ G) (hm : 0 ≤ m → (js.length : Int) + 1 ≤ m)
    (hR : Rr = addE es (stepR f dd (if m < 0 then m else m - js.length) (pE (pL f) dd (toksAt l k'))))
    (H : (e2 = 0 ∧ a2 = a ∧ d2 = dd ∧ ps' <+: qs ∧ qs.length + (l.length - k2) ≤ ps'.length + (l.length - k') ∧ k' < k2 ∧ ∃ ex, pE (pL f) dd (toksAt l k') = .ok ex (toksAt l k2) ∧ RepP w2 (fun g => wr.heap.size ≤ g ∧ some g ≠ (Value.slice qad qs.length qcp).ownBlock) qs ps'.length ex ps'.length) ∨ (e2 ≠ 0 ∧ pE (pL f) dd (toksAt l k') = .err e2 a2)) :
    ∃ gh, gh < l.length - k' + 1 ∧ FLoop base rb tb cap l fv pv ps w RB PB op s at_ dd a B0 G m Rr gh (.int .i64 (((js ++ [ps'.length]).length : Nat) : Int)) W := by
  have hk2l := fs2.rp.z.hk
  have hk1l := fs.rp.z.hk
  have hwr := fs.ht.size
  rcases H with ⟨rfl, rfl, rfl, hpq, hsz, hk, ex, hpe, hrx⟩ | ⟨he, hpe⟩
  · refine ⟨l.length - k2 + 1, by omega, kad2, kcp2, js ++ [ps'.length], k2, d2, 0, a2, qad, qcp, qs, rfl, fs2, Or.inl ⟨rfl, rfl, rfl, rfl, hpre.trans hpq, by omega, by simp; omega, es ++ [ex], f, ?_, ?_, by omega, ?_, ?_⟩⟩
    · refine RepPs.snoc ?_ ?_
      · refine RepP.map (lo := ps'.length) (fun i q _ hq => hq) fs.le (fun sl n vs hr => ?_) hrx
        have : RowAt w2 (fun g => (wr.heap.size ≤ g ∧ some g ≠ (Value.slice qad qs.length qcp).ownBlock) ∧ g < w2.heap.size) 3 1 sl n vs := by
          obtain ⟨q1, q2⟩ := hr
          refine ⟨q1, ?_⟩
          rcases q2 with g | ⟨g, cp, cur, hv, hg, hh, r⟩
          · exact Or.inl g
          · exact Or.inr ⟨g, cp, cur, hv, ⟨hg, block_lt hh⟩, hh, r⟩
        have ltP := block_lt fs.pp.blk
        refine (this.keep (w' := W) fun g hg hlt => hkeep2 g hg.1.1 hlt (fun e => by have := (fs.ko.lt g e.symm).2; omega) (by omega)).weaken fun g hg => ⟨by omega, hg.1.1.2, fun e => ?_, by omega⟩
        rcases hkid2 g e with e2 | e2
        · have := (fs.ko.lt g e2.symm).2; omega
        · omega
      · refine RepPs.map (lo := ps.length) (fun i q _ hq => ?_) (Nat.le_refl _) (fun sl n vs hr => ?_) hrep
        · obtain ⟨r, hr⟩ := hpq
          rw [← hr, List.getElem?_append_left (List.getElem?_eq_some_iff.1 hq).1]
          exact hq
        · refine (hr.keep (w' := W) fun g hg hlt => hkeep g hg.1 hg.2.1 hg.2.2.1 hlt hg.2.2.2).weaken fun g hg => ⟨hg.1.1, fun e => ?_, fun e => ?_, hg.1.2.2.2⟩
          · rcases hmv.own g e with e2 | e2
            · exact hg.1.2.1 e2
            · have := hg.2; omega
          · rcases hkid2 g e with e2 | e2
            · exact hg.1.2.2.1 e2
            · have := hg.2; omega
    · rw [toksAt_len] at hf1 ⊢; omega
    · intro h0; have := hm h0; simp; omega
    · rw [hR, hpe, stepR, addE_cons]
      congr 2
      split
      · rfl
      · simp; omega
  · refine ⟨0, by omega, kad2, kcp2, js ++ [ps'.length], k2, d2, e2, a2, qad, qcp, qs, rfl, fs2, Or.inr ⟨he, rfl, ?_⟩⟩
    rw [hR, hpe]; rfl
end
abbrev zPart : Obj := .cells #[.string ⟨#[]⟩, .int .i64 0, .string ⟨#[]⟩, .int .i64 0, .slice none 0 0] 319
abbrev newPart (op : ByteArray) (p : Nat) : Obj := .cells #[.string op, .int .i64 0, .string ⟨#[]⟩, .int .i64 ((p : Nat) : Int), .slice none 0 0] 319
theorem FS.start {base rb tb cap : Nat} {l : List (Tok × ByteArray)} {fv : Value} {vad : Option Addr} {vcap : Nat} {ps : List PartV} {w w4 : World} {op : ByteArray} {p k k4 d d4 e4 a a4 : Nat} (h : Rp w base rb tb cap l fv (.slice vad ps.length vcap) k d 0 a ps) (T : Touch (· = rb) (w.alloc zPart) w4) (rp4 : Rp w4 base rb tb cap l fv (.slice vad ps.length vcap) k4 d4 e4 a4 ps) :
    FS base rb tb cap l fv (.slice vad ps.length vcap) ps w w.heap.size w4.heap.size op ⟨#[]⟩ p (w4.alloc (newPart op p)) none 0 [] k4 d4 e4 a4 vad vcap ps := by
  have hlt := h.lt
  have sz := T.size
  simp at sz
  have pr4 : Px w4 w.heap.size PartV.zero := (Px.new w PartV.zero rfl).touch T (by show ¬ w.heap.size = rb; omega)
  refine ⟨?_, Px.new w4 ⟨op, 0, ⟨#[]⟩, p, .slice none 0 0⟩ rfl, pr4.below (below1 _ _), World.ownsRow_nil _ _ _ _, ?_, rp4.alloc _, Nat.le_refl _, Or.inl rfl, ?_, ?_, by omega, Nat.le_refl _, by omega, ⟨hlt.1, hlt.2.1⟩⟩
  · exact (((Touch.refl _ w).alloc zPart).trans (T.mono fun g hg => Or.inl hg)).alloc _
  · intro g hg; cases hg
  · intro e; have := (hlt.2.2 _ e.symm).2; omega
  · intro e; have := (hlt.2.2 _ e.symm).2; omega
theorem FS.name {base rb tb cap : Nat} {l : List (Tok × ByteArray)} {fv pv : Value} {ps : List PartV} {w : World} {RB PB : Nat} {op s : ByteArray} {at_ : Nat} {wr : World} {kad : Option Addr} {kcp : Nat} {js : List Nat} {k' d' e' a' : Nat} {pad : Option Addr} {pcp : Nat} {ps' : List PartV} (h : FS base rb tb cap l fv pv ps w RB PB op s at_ wr kad kcp js k' d' e' a' pad pcp ps') (s2 : ByteArray) (p2 : Nat) :
    FS base rb tb cap l fv pv ps w RB PB op s2 p2 ((wr.setCell ⟨PB, 2, none⟩ (.string s2)).setCell ⟨PB, 3, none⟩ (.int .i64 ((p2 : Nat) : Int))) kad kcp js k' d' e' a' pad pcp ps' := by
  have hw := h.hw
  have hP := h.hP
  refine { h with ht := (h.ht.setCell (p := ⟨PB, 2, none⟩) (Or.inr hP) _).setCell (p := ⟨PB, 3, none⟩) (Or.inr hP) _, pp := ⟨?_⟩, pr := ⟨?_⟩, ko := ?_, rp := (h.rp.other (by omega) (by omega) h.nP _ _).other (by omega) (by omega) h.nP _ _ }
  · rw [set_block (set_block h.pp.blk _)]; rfl
  · rw [Below.heap_setCell _ ⟨PB, 3, none⟩ _ RB h.hPR.symm, Below.heap_setCell _ ⟨PB, 2, none⟩ _ RB h.hPR.symm]; exact h.pr.blk
  · refine owns_keep h.ko fun g hg => ?_
    have := (h.kn g hg.symm).2.1
    rw [Below.heap_setCell _ ⟨PB, 3, none⟩ _ g this, Below.heap_setCell _ ⟨PB, 2, none⟩ _ g this]
theorem addE_nil (r : Res (List Ex)) : addE [] r = r := by cases r <;> simp [addE]
section
variable {base rb tb cap : Nat} {l : List (Tok × ByteArray)} {fv pv : Value} {ps : List PartV} {w : World} {RB PB : Nat} {op s : ByteArray} {at_ : Nat} {wr : World} {kad : Option Addr} {kcp : Nat} {js : List Nat} {k' d' e' a' : Nat} {pad : Option Addr} {pcp : Nat} {ps' : List PartV}
theorem FS.kept2 {w2 : World} (h : FS base rb tb cap l fv pv ps w RB PB op s at_ wr kad kcp js k' d' e' a' pad pcp ps') (ht2 : Touch (fun g => g = rb ∨ some g = (Value.slice pad ps'.length pcp).ownBlock) wr w2) : w2.ownsRow w.heap.size 3 1 (.slice kad js.length kcp) js.length (kidsV js) :=
  owns_keep h.ko fun g hg => ht2.block g (h.ko.lt g hg).2 (by
    rintro (e | e)
    · have := (h.ko.lt g hg).1; have := h.hw; omega
    · exact (h.kn g hg.symm).1 e)
theorem fin_ok2 {w9 : World} {k d a k1 d1 e1 a1 : Nat} {es : List Ex} (h : FS base rb tb cap l fv pv ps w RB PB op s at_ wr kad kcp js k1 d1 e1 a1 pad pcp ps') (h9 : FS base rb tb cap l fv pv ps w RB PB op s at_ w9 kad kcp js k' d 0 a pad pcp ps') (ht9 : Touch (· = rb) wr w9) (_hRB : RB = w.heap.size) (hpre : ps <+: ps')
    (hrep : RepPs wr (fun g => w.heap.size ≤ g ∧ some g ≠ (Value.slice pad ps'.length pcp).ownBlock ∧ some g ≠ (Value.slice kad js.length kcp).ownBlock ∧ g ≠ PB) ps' ps.length es js) (hrb : ∀ sl n vs, RowAt wr (fun g => w.heap.size ≤ g ∧ some g ≠ (Value.slice pad ps'.length pcp).ownBlock ∧ some g ≠ (Value.slice kad js.length kcp).ownBlock ∧ g ≠ PB) 3 1 sl n vs → RowAt wr (fun g => g ≠ RB) 3 1 sl n vs) (hsz : ps'.length + (l.length - k') + 1 ≤ ps.length + (l.length - k)) :
    fPost (.ok (.form op.data.toList s.data.toList at_ es) (toksAt l k')) base rb tb cap l fv pv k d a ps w (.returned (partV ⟨op, 0, s, at_, .slice kad js.length kcp⟩)) (((((w9.setCell ⟨RB, 0, none⟩ (.string op)).setCell ⟨RB, 1, none⟩ (.int .i64 0)).setCell ⟨RB, 2, none⟩ (.string s)).setCell ⟨RB, 3, none⟩ (.int .i64 ((at_ : Nat) : Int))).setCell ⟨RB, 4, none⟩ (.slice kad js.length kcp)) := by
  have hw := h.hw
  refine fin_ok h9 rfl rfl hpre (RepPs.map (lo := ps.length) (fun i q _ hq => hq) (Nat.le_refl _) (fun sl n vs hr => ?_) hrep) hsz
  have r2 := hrb sl n vs hr
  obtain ⟨q1, q2⟩ := hr
  obtain ⟨_, q3⟩ := r2
  refine ⟨q1, ?_⟩
  rcases q2 with g | ⟨g, cp, cur, hv, hg, hh, r⟩
  · exact Or.inl g
  · rcases q3 with ⟨g3, _⟩ | ⟨g3, cp3, cur3, hv3, hg3, _⟩
    · rw [hv] at g3; cases g3
    · rw [hv] at hv3
      simp only [Value.slice.injEq, Option.some.injEq, Addr.mk.injEq, and_true, true_and] at hv3
      obtain ⟨rfl, _⟩ := hv3
      refine Or.inr ⟨g, cp, cur, hv, ⟨hg.1, hg.2.1, hg.2.2.1, hg3⟩, ?_, r⟩
      rw [ht9.block g (block_lt hh) (by show ¬ g = rb; omega)]
      exact hh
/-- No row of kids lies in the result's variable. -/
theorem row_not_box {D : Nat → Prop} {B : Nat} {p : PartV} (h : Px wr B p) (_hne : 319 ≠ 3) : ∀ sl n vs, RowAt wr D 3 1 sl n vs → RowAt wr (fun g => g ≠ B) 3 1 sl n vs := by
  rintro sl n vs ⟨q1, q2⟩
  refine ⟨q1, ?_⟩
  rcases q2 with g | ⟨g, cp, cur, hv, hg, hh, r⟩
  · exact Or.inl g
  · refine Or.inr ⟨g, cp, cur, hv, ?_, hh, r⟩
    rintro rfl
    rw [h.blk] at hh
    simp at hh
end
theorem field0 (x : Int) (y z : Value) (W : World) : Sem.run Tryz.prog (Instr.field 142 (.agg #[.int .u8 x, y, z]) 0) W = .ok (.int .u8 x) W := by kernel_rfl
end Go.Proofs.YtdiefbahmcihlaaGreatDoor
