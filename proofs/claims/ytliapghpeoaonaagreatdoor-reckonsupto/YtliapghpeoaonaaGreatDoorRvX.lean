/-
  The reference: a function is reckoned.
-/
import Derived.Test.YtliapghpeoaonaaGreatDoorRvT
import Derived.Deep.DeepCutAuto
import Derived.Maps.AppendAt
set_option maxHeartbeats 8000000
set_option maxRecDepth 8000
namespace Go.Proofs.YtliapghpeoaonaaGreatDoor
open Go.Proofs.Tryz
open Go.RowKit Go.Lib
attribute [local go_sem ↓] Go.wp_at_zero Go.wp_at_succ
theorem Zp5 {w:World}{D:Nat→Prop}{ps:List Zaw}:∀{fs:List Ze8} {fns:List Fn},Zb4 w D ps fs fns→∀{n:List UInt8} {f:Fn},fns.find? (fun f=>f.name==n)=some f→∃(j:Nat) (h1:j<fs.length) (h2:j<fns.length),fns[j]=f∧(fs[j]'h1).name.data.toList=n∧∀i (hi:i<fs.length),i<j→(fs[i]'hi).name.data.toList≠n
 | [],fns,h,n,f,hf=>by rw[show fns=[] from h] at hf;simp at hf
 | x::r,fns,h,n,f,hf=>by
  obtain⟨fn,q,rfl,hx,hr⟩:=h
  simp only[List.find?_cons] at hf
  cases hb:fn.name==n with
  | true =>
   rw[hb] at hf
   have hf2:fn=f:=by simpa using hf
   subst hf2
   refine⟨0,by simp,by simp,rfl,?_,fun i _ hi=>absurd hi (by omega)⟩
   have:fn.name=n:=by simpa using hb
   rw[←this]
   exact hx.1
  | false =>
   rw[hb] at hf
   obtain⟨j,h1,h2,e1,e2,e3⟩:=Zp5 hr hf
   refine⟨j+1,by simp;omega,by simp;omega,by simpa using e1,by simpa using e2,fun i hi hlt=>?_⟩
   cases i with
   | zero =>
    have:fn.name≠n:=by simpa using hb
    intro e
    apply this
    rw[←e]
    exact hx.1.symm
   | succ i=>exact e3 i (by simpa using hi) (by omega)
theorem find_is {fs:List Ze8}{n:List UInt8}{j:Nat}(h1:j<fs.length)(e2:(fs[j]'h1).name.data.toList=n)(e3:∀i (hi:i<fs.length),i<j→(fs[i]'hi).name.data.toList≠n){r:Int}(hr:Zft fs n fs.length r):r=(j:Int):=by
 rcases hr with ⟨_,h⟩ | ⟨i,hi,_,rfl,hn,hall⟩
 ·have:=h j h1 h1
  rw[ByteArray.toList_eq] at this
  exact absurd e2 this
 ·rw[ByteArray.toList_eq] at hn
  have a1:¬ i<j:=fun g=>e3 i hi g hn
  have a2:¬ j<i:=fun g=>by
   have:=hall j h1 g
   rw[ByteArray.toList_eq] at this
   exact this e2
  have:i=j:=by omega
  rw[this]
theorem Ze9 {W X:World}{B rb:Nat}(h:W.heap[B]?=some Zaz)(hb:Zaa (·=rb) W X)(hne:B≠rb):X.cell? ⟨B,0,none⟩=some (.int .u8 0)∧X.cell? ⟨B,1,none⟩=some (.int .i64 0)∧X.cell? ⟨B,2,none⟩=some (.string ⟨#[]⟩)∧X.cell? ⟨B,3,none⟩=some (.slice none 0 0)∧(∀j,X.frozen? ⟨B,j,none⟩=false)∧B<X.heap.size:=by
 have h2:X.heap[B]?=some Zaz:=by rw[hb.block B (Zag h) hne];exact h
 obtain⟨a,b,c,d,e⟩:=Zak h2
 exact⟨a,b,c,d,e,Zag h2⟩
theorem Zcf {S:Nat→Prop}{w X:World}(h:Zaa S w X){b:Nat}(hb:w.heap.size≤b)(v0 v1 v2 v3:Value):Zaa S w ((((X.setCell ⟨b,0,none⟩ v0).setCell ⟨b,1,none⟩ v1).setCell ⟨b,2,none⟩ v2).setCell ⟨b,3,none⟩ v3) :=
 (((h.setCell (p:=⟨b,0,none⟩) (Or.inr hb) _).setCell (p:=⟨b,1,none⟩) (Or.inr hb) _).setCell (p:=⟨b,2,none⟩) (Or.inr hb) _).setCell (p:=⟨b,3,none⟩) (Or.inr hb) _
structure LC (w wr:World)(D:Nat→Prop)(fo:Obj)(ns:List ByteArray)(us:List PV)(a b:Value):Prop where
 hb:Below w.heap.size w wr
 b0:wr.heap[w.heap.size]?=some Zaz
 b1:wr.heap[w.heap.size+1]?=some fo
 b2:wr.heap[w.heap.size+1+1]?=some (Zbr a b)
 rs:RS wr (fun g=>D g∧(g<w.heap.size∨w.heap.size+1+1<g)) ns us (.agg #[a,b])
theorem LC.start {w wc:World}{D:Nat→Prop}{fo:Obj}{qs:List ByteArray}{vs:List PV}(hh:wc.heap=((w.alloc Zaz).alloc fo).heap)(hb:Below w.heap.size w wc):LC w (wc.alloc (Zbr (.slice none 0 0) (.slice none 0 0))) D fo (qs.take 0) (vs.take 0) (.slice none 0 0) (.slice none 0 0):=by
 have hz:wc.heap.size=w.heap.size+1+1:=by rw[hh];simp
 refine⟨hb.alloc (by omega) _,?_,?_,?_,?_⟩
 ·rw[Za0 _ _ _ (by omega),hh,Za0 _ _ _ (by simp)];exact heap_alloc_new _ _
 ·rw[Za0 _ _ _ (by omega),hh]
  have:=heap_alloc_new (w.alloc Zaz) fo
  simpa using this
 ·have:=heap_alloc_new wc (Zbr (.slice none 0 0) (.slice none 0 0))
  rw[hz] at this
  exact this
 ·exact⟨_,_,[],rfl,⟨rfl,Or.inl ⟨⟨_,_,rfl⟩,rfl⟩⟩,⟨rfl,Or.inl ⟨⟨_,_,rfl⟩,rfl⟩⟩,by simp[RVs],rfl⟩
theorem LC.drew {w wr:World}{D:Nat→Prop}{fo:Obj}{ns:List ByteArray}{us:List PV}{a b:Value}(h:LC w wr D fo ns us a b):LC w wr.drew D fo ns us a b:=⟨h.hb.drew,h.b0,h.b1,h.b2,h.rs.heap rfl⟩
theorem LC.lt {w wr:World}{D:Nat→Prop}{fo:Obj}{ns:List ByteArray}{us:List PV}{a b:Value}(h:LC w wr D fo ns us a b):w.heap.size+1+1<wr.heap.size:=Zag h.b2
theorem LC.step {w wr w2:World}{D:Nat→Prop}{fo:Obj}{ns ns':List ByteArray}{us us':List PV}{a b a' b':Value}(h:LC w wr D fo ns us a b)(hb2:Below wr.heap.size wr w2)(hrs:RS w2 (fun g=>D g∧(g<w.heap.size∨w.heap.size+1+1<g)) ns' us' (.agg #[a',b'])):
  LC w ((w2.setCell ⟨w.heap.size+1+1,0,none⟩ a').setCell ⟨w.heap.size+1+1,1,none⟩ b') D fo ns' us' a' b':=by
 have lt:=h.lt
 have hS:∀g,g≠w.heap.size+1+1→((w2.setCell ⟨w.heap.size+1+1,0,none⟩ a').setCell ⟨w.heap.size+1+1,1,none⟩ b').heap[g]?=w2.heap[g]?:=fun g hne=>by
  rw[Below.heap_setCell _ ⟨w.heap.size+1+1,1,none⟩ _ g hne,Below.heap_setCell _ ⟨w.heap.size+1+1,0,none⟩ _ g hne]
 have v2:w2.heap[w.heap.size+1+1]?=some (Zbr a b):=by rw[hb2.block _ lt];exact h.b2
 refine⟨?_,?_,?_,?_,?_⟩
 ·exact ((h.hb.trans (hb2.mono h.hb.size)).setCell (p:=⟨w.heap.size+1+1,0,none⟩) (by show w.heap.size≤w.heap.size+1+1;omega) _).setCell (p:=⟨w.heap.size+1+1,1,none⟩) (by show w.heap.size≤w.heap.size+1+1;omega) _
 ·rw[hS _ (by omega),hb2.block _ (by omega)];exact h.b0
 ·rw[hS _ (by omega),hb2.block _ (by omega)];exact h.b1
 ·have v3:(w2.setCell ⟨w.heap.size+1+1,0,none⟩ a').heap[w.heap.size+1+1]?=some (Zbr a' b):=by rw[Zau v2];simp
  rw[Zau v3];simp
 ·refine hrs.map fun e size sl n xs g=>(g.keep fun k hk _=>hS k (by rcases hk.2 with h1 | h1<;>omega)).weaken fun k hk=>hk.1
section
variable {w0 w:World} {rb prb:Nat} {fv pv:Value} {fs:List Ze8} {ps:List Zaw} {fns:List Fn}
theorem Z3d     (D : Nat → Prop) (hDr : ¬ D rb) (hDn : ∀ g, w.heap.size ≤ g → D g) (hS : Zht   w0 rb prb fv pv fs ps fns w) {k : Nat} (hR : RK w rb prb k) (nb : ByteArray) (f : Fn) (hf : fns.find? (fun f => f.name == nb.data.toList) = some f) (vs : List PV) (sl : Value) (cs : List Value) (hseg : Zar   w D 46 4 sl vs.length cs) (hvs : RVs w D vs cs) (hpl : f.params.length = vs.length) (hvl : vs.length ≤ 90000) (O : Option (PV × Nat))
    (cex : ∀ (X : World) (D' : Nat → Prop) (qs : List ByteArray) (x : Value) (b : Nat), ¬ D' rb → (∀ g, X.heap.size ≤ g → D' g) → Zds  qs vs = Zdp    f vs → Zht   w0 rb prb fv pv fs ps fns X → RK X rb prb k → RS X D' qs vs x → Ze0  w0 (fun _ => True) ps 0 f.body b → Calls Tryz.prog 125 #[.pointer (some ⟨rb, 0, none⟩), .int .i64 ((b : Nat) : Int), x] X (Zct    rb prb D' O X)) :
    Calls Tryz.prog 73 #[.pointer (some ⟨rb, 0, none⟩), .string nb, sl] w (Zct    rb prb D O w) := by
  obtain ⟨st, hst, r0, r1, rf, lr, hset⟩ := hR.facts
  clear hset hst r1
  have pm := hS.pm'
  have c5 := pm.c5
  have hfl := pm.hf
  obtain ⟨j, j1, j2, ef, en, eall⟩ := Zp5        pm.rep hf
  have rep0 := hS.pm.rep.at j j1 j2
  have rep1 := pm.rep.at j j1 j2
  rw [ef] at rep0
  obtain ⟨hn1, hn2, ⟨qs, ls, hql, hpp, hrow, hrow2⟩, hbody⟩ := rep0
  clear hn1 hn2 rep1
  have HQL : Aside (qs.length = ls.length) := hql
  clear hql
  have hrowW := Zai       hrow hS.hb
  obtain ⟨g, c', rfl, hc1, hc2, k0, k1, k2, k3, k4⟩ := pm.fun j j1
  obtain ⟨g0, c0', e0, _, _, k00, _⟩ := hS.pm.fun j j1
  simp only [Value.slice.injEq, Option.some.injEq, Addr.mk.injEq, and_true, true_and] at e0
  obtain ⟨rfl, _⟩ := e0
  have lg := Zae     k00
  have lp := Zae     hS.pm.c5
  simp only at lg lp
  have hr := hS.hr
  have hsz := hS.hb.size
  have cfi := fun X (hX : Below w.heap.size w X) => Zd8      (pm.below hX) nb fs.length (Nat.le_refl _)
  have hfi : ∀ r, Zft    fs nb.toList fs.length r → r = (j : Int) := fun r hr => find_is j1 en eall (by rw [ByteArray.toList_eq] at hr; exact hr)
  obtain ⟨pad, pcap, hpv⟩ : ∃ ad cap, (fs[j]'j1).pv = .slice ad qs.length cap := by
    obtain ⟨ad, cap, h⟩ := (Zar.of_row   hrow).slice
    exact ⟨ad, cap, h⟩
  obtain ⟨lad, lcap, hlv⟩ : ∃ ad cap, (fs[j]'j1).lv = .slice ad ls.length cap := by
    obtain ⟨ad, cap, h⟩ := (Zar.of_row   hrow2).slice
    exact ⟨ad, cap, h⟩
  rw [hpv] at k2 hrow hrowW
  rw [hlv] at k3
  generalize (fs[j]'j1).name = fnm at *
  generalize (fs[j]'j1).at_ = fat at *
  generalize (fs[j]'j1).body = fbd at *
  have n1 : w.heap.size ≠ rb := by omega
  have n2 : w.heap.size ≠ g := by omega
  have n3 : w.heap.size ≠ prb := by omega
  have n4 : w.heap.size + 1 ≠ rb := by omega
  have n5 : w.heap.size + 1 ≠ g := by omega
  have n6 : w.heap.size + 1 ≠ prb := by omega
  unfold maxLen at hc2
  have hji : ((j : Nat) : Int) < ((fs.length : Nat) : Int) := by omega
  have hji0 : (0 : Int) ≤ ((j : Nat) : Int) := by omega
  have HPP : Aside (Zb5    (qs.zip ls) = f.params) := hpp
  have HB : Aside (Ze0  w0 (fun _ => True) ps 0 f.body fbd) := hbody
  clear hpv hlv hrow hrow2 k00 en eall hpp hbody
  go_enter Tryz.func73, Tryz.ntmps73
  go_upto_region 1 with fail
  go_cut [8] (fun v8 wx => v8 = .pointer (some ⟨w.heap.size + 1, 0, none⟩) ∧ wx.heap = ((w.alloc Zaz  ).alloc (funO fnm fat (.slice pad qs.length pcap) (.slice lad ls.length lcap) fbd)).heap ∧ Below w.heap.size w wx)
  case first =>
   go_region_held3 (fun w' => w'.cell? ⟨rb, 0, none⟩ = some (.pointer (some ⟨prb, 5, none⟩)) ∧ w'.cell? ⟨prb, 5, none⟩ = some (.slice (some ⟨g, 0, none⟩) fs.length c') ∧ w'.cell? ⟨g, j * 5, none⟩ = some (.string fnm) ∧ w'.cell? ⟨g, j * 5 + 1, none⟩ = some (.int .i64 ((fat : Nat) : Int)) ∧ w'.cell? ⟨g, j * 5 + 2, none⟩ = some (.slice pad qs.length pcap) ∧ w'.cell? ⟨g, j * 5 + 3, none⟩ = some (.slice lad ls.length lcap) ∧ w'.cell? ⟨g, j * 5 + 4, none⟩ = some (.int .i64 ((fbd : Nat) : Int))) (go_keep) ((go_at_call 100; refine (cfi _ (by first | exact Zab    _ _ | exact (Zab    _ _).drew | exact (below2 _ _ _).drew | exact below2 _ _ _)).mono ?_; rintro e w2 ⟨⟨fr, rfl, hfr⟩, rfl⟩; obtain rfl := hfi _ hfr; clear hfr))
   all_goals go_wp2_with fail
   all_goals go_meet
   all_goals first
     | exact ⟨rfl, rfl, below2 w _ _⟩
     | exact ⟨rfl, rfl, (below2 w _ _).drew⟩
     | exact ⟨rfl, rfl, (below2 w _ _).drew.drew⟩
  case rest =>
    obtain ⟨rfl, hh, hbw⟩ := hcut
    have hwz : wc.heap.size = w.heap.size + 1 + 1 := by rw [hh]; simp
    have lc0 := LC.start (qs := qs) (vs := vs) (D := D) hh hbw
    clear hh hbw
    have hql2 : Aside (qs.length = vs.length) := by
      show _ = _
      have h1 := congrArg List.length HPP.out
      have h2 := HQL.out
      simp [Zb5   ] at h1
      omega
    go_wp2_with fail
    go_loopg [10] vs.length (fun gh iv wr => ∃ (q : Nat) (a b : Value), gh = vs.length - q ∧ iv = .int .i64 ((q : Nat) : Int) ∧ q ≤ vs.length ∧ LC w wr D (funO fnm fat (.slice pad qs.length pcap) (.slice lad ls.length lcap) fbd) (qs.take q) (vs.take q) a b)
    case atStart => exact ⟨0, _, _, by omega, rfl, by omega, by simpa using lc0⟩
    case round =>
      obtain ⟨q, a, b, rfl, rfl, hq, lc⟩ := hrel
      have hlen := hql2.out
      obtain ⟨x0, x1, xf⟩ := Zd2       lc.b2
      have y2 : wr.cell? ⟨w.heap.size + 1, 2, none⟩ = some (.slice pad qs.length pcap) := by unfold World.cell?; rw [lc.b1]; rfl
      have y4 : wr.cell? ⟨w.heap.size + 1, 4, none⟩ = some (.int .i64 ((fbd : Nat) : Int)) := by unfold World.cell?; rw [lc.b1]; rfl
      obtain ⟨z0, z1, z2, z3, zf⟩ := Zak        lc.b0
      have ltw := lc.lt
      by_cases hlt : q < vs.length
      · obtain ⟨g3, c3, e3, _, hd1, hd2, hcx3⟩ := (Zai       hrowW lc.hb).cell (by omega)
        simp only [Value.slice.injEq] at e3
        obtain ⟨rfl, _, rfl⟩ := e3
        obtain ⟨nq, hnq⟩ : ∃ nq, qs[q]'(by omega) = nq := ⟨_, rfl⟩
        have t0 : wr.cell? ⟨g3, q, none⟩ = some (.string nq) := by rw [hcx3 q (by omega)]; simp [Zco  , show q < qs.length by omega, ← hnq]
        clear hcx3
        obtain ⟨g4, o4, c4, e4, _, he1, he2, hcx4⟩ := hseg.cell (by omega)
        clear hcx4
        subst e4
        obtain ⟨sv, vad, vc, vds, v0, v1, v2, v3, vS, vG, vV, vR⟩ := Zb0     hseg rfl hvs q hlt
        obtain ⟨vq, hvq⟩ : ∃ vq, vs[q] = vq := ⟨_, rfl⟩
        rw [hvq] at v0 v1 v3 vR
        have u0 := Below.cellv lc.hb v0
        have u1 := Below.cellv lc.hb v1
        have u2 := Below.cellv lc.hb v2
        have u3 := Below.cellv lc.hb v3
        obtain ⟨asl, bsl, ccs, eab, sa1, sb1, _, _⟩ := lc.rs
        simp only [Value.agg.injEq, Array.mk.injEq, List.cons.injEq, and_true] at eab
        obtain ⟨rfl, rfl⟩ := eab
        obtain ⟨a1, a2, ea⟩ := sa1.slice
        obtain ⟨b1, b2, eb⟩ := sb1.slice
        subst ea eb
        have hvR : RV wr (fun g => D g ∧ (g < w.heap.size ∨ w.heap.size + 1 + 1 < g)) vq (.agg #[.int .u8 (Zbe   vq : Int), .int .i64 (Zd1  vq), .string sv, .slice vad (Za7    vq).length vc]) := (vR.bound.below lc.hb).weaken (fun g hg => ⟨hg.1, Or.inl hg.2⟩)
        have TK : Aside (qs.take (q + 1) = qs.take q ++ [nq] ∧ vs.take (q + 1) = vs.take q ++ [vq]) := ⟨by rw [← hnq]; exact List.take_succ_eq_append_getElem (by omega), by rw [← hvq]; exact List.take_succ_eq_append_getElem hlt⟩
        obtain ⟨kq, hkq⟩ : ∃ kq : Int, (Zbe   vq : Int) = kq := ⟨_, rfl⟩
        obtain ⟨zq, hzq⟩ : ∃ zq : Int, Zd1  vq = zq := ⟨_, rfl⟩
        obtain ⟨lq, hlq⟩ : ∃ lq : Nat, (Za7    vq).length = lq := ⟨_, rfl⟩
        rw [hkq] at u0 hvR
        rw [hzq] at u1 hvR
        rw [hlq] at u3 hvR
        obtain ⟨aq, haq⟩ : ∃ aq : Nat, (qs.take q).length = aq := ⟨_, rfl⟩
        obtain ⟨bq, hbq⟩ : ∃ bq : Nat, (vs.take q).length = bq := ⟨_, rfl⟩
        have lcr := lc.rs
        rw [haq, hbq] at lcr
        obtain ⟨tk1, tk2⟩ := TK.out
        have cwi : ∀ X, X.heap = wr.heap → Calls Tryz.prog 124 #[.agg #[.slice a1 aq a2, .slice b1 bq b2], .string nq, .agg #[.int .u8 kq, .int .i64 zq, .string sv, .slice vad lq vc]] X fun e w' => (∃ a' n' b' m', e = .returned (.agg #[.slice a' (q + 1) n', .slice b' (q + 1) m']) ∧ RS w' (fun g => D g ∧ (g < w.heap.size ∨ w.heap.size + 1 + 1 < g)) (qs.take (q + 1)) (vs.take (q + 1)) (.agg #[.slice a' (q + 1) n', .slice b' (q + 1) m'])) ∧ Below X.heap.size X w' := fun X hX =>
          (Zwa      _ (qs.take q) (vs.take q) _ _ _ _ X (lcr.heap hX) (hvR.heap hX) (by simp; omega) (fun g hg => by rw [hX] at hg; exact ⟨hDn g (by omega), by omega⟩)).mono fun e w' ⟨⟨x', h1, h2⟩, h3⟩ => by
            rw [← tk1, ← tk2] at h2
            have h2' := h2
            obtain ⟨n', v', cc', rfl, sn', sv', _, _⟩ := h2'
            obtain ⟨a', c', rfl⟩ := sn'.slice
            obtain ⟨b', d', rfl⟩ := sv'.slice
            have l1 : (qs.take (q + 1)).length = q + 1 := by simp; omega
            have l2 : (vs.take (q + 1)).length = q + 1 := by simp; omega
            rw [l1, l2] at h1 h2
            exact ⟨⟨a', c', b', d', h1, h2⟩, h3⟩
        have CWI : Hid (∀ X, X.heap = wr.heap → Calls Tryz.prog 124 #[.agg #[.slice a1 aq a2, .slice b1 bq b2], .string nq, .agg #[.int .u8 kq, .int .i64 zq, .string sv, .slice vad lq vc]] X fun e w' => (∃ a' n' b' m', e = .returned (.agg #[.slice a' (q + 1) n', .slice b' (q + 1) m']) ∧ RS w' (fun g => D g ∧ (g < w.heap.size ∨ w.heap.size + 1 + 1 < g)) (qs.take (q + 1)) (vs.take (q + 1)) (.agg #[.slice a' (q + 1) n', .slice b' (q + 1) m'])) ∧ Below X.heap.size X w') := cwi
        rw [haq] at x0
        rw [hbq] at x1
        have LCS : Aside (LC w wr D (funO fnm fat (.slice (some ⟨g3, 0, none⟩) qs.length pcap) (.slice lad ls.length lcap) fbd) (qs.take q) (vs.take q) (.slice a1 (qs.take q).length a2) (.slice b1 (vs.take q).length b2)) := lc
        clear tk1 tk2 lc lcr sa1 sb1 v0 v1 v2 v3 vS vG vV vR hvR cwi hnq hvq hkq hzq hlq haq hbq
        have hqi : ((q : Nat) : Int) < ((vs.length : Nat) : Int) := by omega
        have hqi2 : ((q : Nat) : Int) < ((qs.length : Nat) : Int) := by omega
        unfold maxLen at hd2 he2
        have xf0 := xf 0
        have xf1 := xf 1
        go_wp2_with fail
        go_region_with (go_at_call 124; refine (CWI.out _ (by exact rfl)).mono ?_; rintro e w2 ⟨⟨a', n', b', m', rfl, hrs⟩, hb2⟩; obtain ⟨p0, p1, pf⟩ := Zd2       (B := w.heap.size + 1 + 1) (by rw [hb2.block _ ltw]; exact LCS.out.b2); have pf0 := pf 0; have pf1 := pf 1)
        all_goals go_wp2_with fail
        all_goals go_roundg (vs.length - (q + 1))
        all_goals first
          | (case measure => omega)
          | skip
        all_goals exact ⟨q + 1, _, _, rfl, by go_num, by omega, by first | exact LCS.out.step hb2 hrs | exact LCS.out.drew.step hb2 hrs | exact LCS.out.drew.drew.step hb2 hrs⟩
      · have hqq : q = vs.length := by omega
        subst hqq
        have hTw : Zaa   (· = rb) w wr := Zaa.of_below   lc.hb
        have hEL : Zds  qs vs = Zdp    f vs := by
          unfold Zds  Zdp
          rw [← HPP.out, Zb5   , List.map_map]
          congr 2
          have h2 := HQL.out
          rw [show ((fun x : List UInt8 × Nat => x.1) ∘ fun x : ByteArray × Nat => (x.1.data.toList, x.2)) = (fun y : ByteArray => y.data.toList) ∘ Prod.fst from rfl, ← List.map_map, List.map_fst_zip (by omega)]
        have hRS : RS wr (fun g => D g ∧ g ≠ w.heap.size) qs vs (.agg #[a, b]) := by
          have := lc.rs
          rw [List.take_of_length_le (by omega), List.take_of_length_le (Nat.le_refl _)] at this
          exact this.map fun _ _ _ _ _ g => g.weaken fun k hk => ⟨hk.1, by rcases hk.2 with h | h <;> omega⟩
        have cx := cex wr (fun g => D g ∧ g ≠ w.heap.size) qs (.agg #[a, b]) fbd (fun h => hDr h.1) (fun g hg => ⟨hDn g (by omega), by omega⟩) hEL (hS.touch hTw) (hR.below lc.hb) hRS HB.out
        obtain ⟨asl, bsl, ccs, eab, sa1, sb1, _, _⟩ := lc.rs
        simp only [Value.agg.injEq, Array.mk.injEq, List.cons.injEq, and_true] at eab
        obtain ⟨rfl, rfl⟩ := eab
        obtain ⟨a1, a2, ea⟩ := sa1.slice
        obtain ⟨b1, b2, eb⟩ := sb1.slice
        subst ea eb
        have hz := lc.b0
        obtain ⟨slad, slcap, rfl⟩ := hseg.slice
        obtain ⟨aq, haq⟩ : ∃ aq : Nat, (qs.take vs.length).length = aq := ⟨_, rfl⟩
        obtain ⟨bq, hbq⟩ : ∃ bq : Nat, (vs.take vs.length).length = bq := ⟨_, rfl⟩
        rw [haq] at x0 cx
        rw [hbq] at x1 cx
        clear sa1 sb1 hRS hEL cex hseg hvs lc hS hR pm cfi hfi haq hbq
        cases O with
        | none =>
          have cx2 : Calls Tryz.prog 125 #[.pointer (some ⟨rb, 0, none⟩), .int .i64 ((fbd : Nat) : Int), .agg #[.slice a1 aq a2, .slice b1 bq b2]] wr fun e w' => Zaa   (· = rb) wr w' ∧ ∃ (k z : Int) (s : ByteArray) (ad : Option Addr) (n c : Nat), e = .returned (.tuple #[.agg #[.int .u8 k, .int .i64 z, .string s, .slice ad n c], .bool false]) := cx
          clear cx
          go_wp2_with (go_at_call 125; refine cx2.mono ?_; rintro e w2 ⟨ht, kk, zz, ss, xad, xn, xc, rfl⟩; obtain ⟨q0, q1, q2, q3, qf, ll⟩ := Ze9        hz ht n1; have qf0 := qf 0; have qf1 := qf 1; have qf2 := qf 2; have qf3 := qf 3)
          refine bodyPost_ret (v := .tuple #[.agg #[.int .u8 kk, .int .i64 zz, .string ss, .slice xad xn xc], .bool false]) (by simp [results, Tryz.results73, go_sem, q0, q1, q2, q3]) rfl (Zdv     rfl (Zcf       (hTw.trans ht) (Nat.le_refl _) _ _ _ _))
        | some O =>
          obtain ⟨v, k'⟩ := O
          have cx2 : Calls Tryz.prog 125 #[.pointer (some ⟨rb, 0, none⟩), .int .i64 ((fbd : Nat) : Int), .agg #[.slice a1 aq a2, .slice b1 bq b2]] wr fun e w' => Zaa   (· = rb) wr w' ∧ ∃ x : Value, e = .returned (.tuple #[x, .bool true]) ∧ RV w' (fun g => D g ∧ g ≠ w.heap.size) v x ∧ RK w' rb prb k' := cx
          clear cx
          go_wp2_with (go_at_call 125; refine cx2.mono ?_; rintro e w2 ⟨ht, x, rfl, hx, hk2⟩; obtain ⟨kk, zz, ss, xad, xn, xc, rfl, hkk⟩ := hx.parts; obtain ⟨q0, q1, q2, q3, qf, ll⟩ := Ze9        hz ht n1; have qf0 := qf 0; have qf1 := qf 1; have qf2 := qf 2; have qf3 := qf 3)
          refine bodyPost_ret (v := .tuple #[.agg #[.int .u8 (kk : Int), .int .i64 zz, .string ss, .slice xad xn xc], .bool true]) (by simp [results, Tryz.results73, go_sem, q0, q1, q2, q3]) rfl (Zgo     rfl (Zcf       (hTw.trans ht) (Nat.le_refl _) _ _ _ _) ?_ ?_)
          · exact ((hx.res (b := w.heap.size) (fun k hk => hk.2) _ _ _ _).weaken (fun k hk => hk.1))
          · exact RK.same hk2 (Zej      _ _ _ _ _ _ rb (by omega))
end
structure GR (wr:World)(base:Nat)(D:Nat→Prop)(us:List PV)(sl:Value)(cs:List Value):Prop where
 own:wr.ownsRow base 46 4 sl us.length cs
 rvs:RVs wr (fun g=>D g∧some g≠sl.ownBlock) us cs
theorem GR.start (wr:World)(base:Nat)(D:Nat→Prop):GR wr base D [] (.slice none 0 0) []:=⟨World.ownsRow_nil _ _ _ _,by rw[RVs]⟩
theorem GR.touch {wr w2:World}{base rb:Nat}{D:Nat→Prop}{us:List PV}{sl:Value}{cs:List Value}(h:GR wr base D us sl cs)(ht:Zaa (·=rb) wr w2)(hr:rb<base)(hD:¬ D rb):GR w2 base D us sl cs :=
 ⟨Zay h.own fun g hg=>ht.block g (h.own.lt g hg).2 (by have:=(h.own.lt g hg).1;omega),h.rvs.touch ht fun k hk e=>hD (e ▸ hk.1)⟩
theorem GR.below {wr w2:World}{base:Nat}{D:Nat→Prop}{us:List PV}{sl:Value}{cs:List Value}(h:GR wr base D us sl cs)(hb:Below wr.heap.size wr w2):GR w2 base D us sl cs :=
 ⟨Zay h.own fun g hg=>hb.block g (h.own.lt g hg).2,h.rvs.below hb⟩
theorem GR.push {w2 X w6:World}{base:Nat}{D:Nat→Prop}{us:List PV}{sl sl':Value}{cs:List Value}{v:PV}{a b c d:Value}(h:GR w2 base D us sl cs)(hv:RV w2 (fun g=>D g∧some g≠sl.ownBlock) v (.agg #[a,b,c,d]))(hX:Below w2.heap.size w2 X)(own6:w6.ownsRow base 46 4 sl' (us.length+1) (cs++[a,b,c,d]))(hg:X.grownBy w6 sl.ownBlock)(ho:sl'.ownBlock=sl.ownBlock∨sl'.ownBlock=some X.heap.size):GR w6 base D (us++[v]) sl' (cs++[a,b,c,d]):=by
 have hz:=hX.size
 have key:∀g,(D g∧some g≠sl.ownBlock)∧g<w2.heap.size→D g∧some g≠sl'.ownBlock:=fun g hk=>⟨hk.1.1,by
  rcases ho with e | e
  ·rw[e];exact hk.1.2
  ·rw[e];intro h2;cases h2;omega⟩
 have sm:Z33 (fun g=>(D g∧some g≠sl.ownBlock)∧g<w2.heap.size) X w6:=fun k hk hlt=>hg.block k (by omega) hk.1.2
 refine⟨by simpa using own6,RVs.append (RVs.one ?_) ?_⟩
 ·exact ((hv.bound.below hX).map fun _ _ _ g=>g.keep sm).weaken fun g hk=>key g hk.1
 ·exact ((h.rvs.bound.below hX).map fun _ _ _ g=>g.keep sm).weaken fun g hk=>key g hk.1
theorem GR.setCell {wr:World}{base:Nat}{D:Nat→Prop}{us:List PV}{sl:Value}{cs:List Value}(h:GR wr base D us sl cs){p:Addr}(h1:p.block<base)(h2:¬ D p.block)(u:Value):GR (wr.setCell p u) base D us sl cs :=
 ⟨Zay h.own fun g hg=>Below.heap_setCell wr p u g (by have:=(h.own.lt g hg).1;omega),h.rvs.map fun _ _ _ g=>(g.keep fun k hk _=>Below.heap_setCell wr p u k (by rintro rfl;exact h2 hk.1)).weaken fun _ hk=>hk.1⟩
def Zv7 (w:World)(rb prb k m:Nat)(psx:ByteArray)(C:Nat→List PV→Option (PV×Nat)):Prop :=
 ∀(X:World) (D:Nat→Prop) (k':Nat) (vs:List PV) (sl:Value) (cs:List Value),Zaa (·=rb) w X→¬ D rb→(∀g,X.heap.size≤g→D g)→RK X rb prb k'→k'≤k→Zar X D 46 4 sl vs.length cs→RVs X D vs cs→vs.length=m→(∀v∈vs,Zec v)→Calls prog 73 #[.pointer (some ⟨rb,0,none⟩),.string psx,sl] X (Zct rb prb D (C k' vs) X)
theorem Zhv {wr X w2:World}{rb:Nat}(ht:Zaa (·=rb) X w2)(hX:X.heap=(wr.alloc Zaz).heap)(hne:wr.heap.size≠rb):(w2.cell? ⟨wr.heap.size,0,none⟩=some (.int .u8 0)∧w2.cell? ⟨wr.heap.size,1,none⟩=some (.int .i64 0)∧w2.cell? ⟨wr.heap.size,2,none⟩=some (.string ⟨#[]⟩)∧w2.cell? ⟨wr.heap.size,3,none⟩=some (.slice none 0 0)∧(∀j,w2.frozen? ⟨wr.heap.size,j,none⟩=false)∧wr.heap.size<w2.heap.size)∧X.heap[wr.heap.size]?=some Zaz :=
 have h:X.heap[wr.heap.size]?=some Zaz:=by rw[hX];exact heap_alloc_new _ _
 ⟨Ze9 h ht hne,h⟩
def Zlc (wr X:World):Prop:=X.os=wr.os∧X.tape=wr.tape∧X.output=wr.output∧(X.heap=wr.heap∨X.heap=(wr.alloc Zaz).heap)
theorem Zlc.below {wr X:World}(h:Zlc wr X):Below wr.heap.size wr X:=by
 obtain⟨h1,h2,h3,h4 | h4⟩:=h
 ·exact⟨h1,h2,h3,by rw[h4];exact Nat.le_refl _,fun k _=>by rw[h4]⟩
 ·exact⟨h1,h2,h3,by rw[h4];simp,fun k hk=>by rw[h4];exact Za0 _ _ _ hk⟩
theorem Zlc.touch {wr X:World}{rb:Nat}(h:Zlc wr X):Zaa (·=rb) wr X:=Zaa.of_below h.below
def Dx (D:Nat→Prop)(wr X:World)(g:Nat):Prop:=D g∧(g<wr.heap.size∨X.heap.size≤g)
def XR (rb prb:Nat)(D:Nat→Prop)(O:Option (PV×Nat))(w2:World)(k z:Int)(s:ByteArray)(ad:Option Addr)(n c:Nat)(b:Bool):Prop :=
 match O with
 | none=>b=false
 | some (v,k1)=>b=true∧RV w2 D v (.agg #[.int .u8 k,.int .i64 z,.string s,.slice ad n c])∧RK w2 rb prb k1
theorem Zld {rb prb:Nat}{D:Nat→Prop}{O:Option (PV×Nat)}{w w':World}{e:Ending}(h:Zct rb prb D O w e w'):Zaa (·=rb) w w'∧∃(k z:Int) (s:ByteArray) (ad:Option Addr) (n c:Nat) (b:Bool),e=.returned (.tuple #[.agg #[.int .u8 k,.int .i64 z,.string s,.slice ad n c],.bool b])∧XR rb prb D O w' k z s ad n c b:=by
 obtain⟨h1,h2⟩:=h
 refine⟨h1,?_⟩
 cases O with
 | none =>
  obtain⟨k,z,s,ad,n,c,he⟩:=h2
  exact⟨k,z,s,ad,n,c,false,he,rfl⟩
 | some o =>
  obtain⟨v,k1⟩:=o
  obtain⟨x,he,hx,hk⟩:=h2
  obtain⟨kk,zz,ss,xad,xn,xc,rfl,_⟩:=hx.parts
  exact⟨kk,zz,ss,xad,xn,xc,true,he,rfl,hx,hk⟩
def XB (rb prb:Nat)(D:Nat→Prop)(O:Option (PV×Nat))(wr wx:World)(v10 v11:Value):Prop :=
 Zaa (·=rb) wr wx∧∃(B:Nat) (k z:Int) (s:ByteArray) (ad:Option Addr) (n c:Nat),v10=.pointer (some ⟨B,0,none⟩)∧wr.heap.size≤B∧wx.heap[B]?=some (Zce (.int .u8 k) (.int .i64 z) (.string s) (.slice ad n c))∧match O with
 | none=>v11=.bool false
 | some (v,k1)=>v11=.bool true∧RV wx (fun g=>D g∧g≠B) v (.agg #[.int .u8 k,.int .i64 z,.string s,.slice ad n c])∧RK wx rb prb k1
theorem XB.late {rb prb:Nat}{D:Nat→Prop}{O:Option (PV×Nat)}{wr X w2:World}(_hX:X.heap=wr.heap)(hT:Zaa (·=rb) wr w2){k z:Int}{s:ByteArray}{ad:Option Addr}{n c:Nat}{b:Bool}(h:XR rb prb (Dx D wr X) O w2 k z s ad n c b):
  XB rb prb D O wr (w2.alloc (Zce (.int .u8 k) (.int .i64 z) (.string s) (.slice ad n c))) (.pointer (some ⟨w2.heap.size,0,none⟩)) (.bool b):=by
 refine⟨hT.alloc _,w2.heap.size,k,z,s,ad,n,c,rfl,hT.size,heap_alloc_new _ _,?_⟩
 cases O with
 | none=>exact congrArg Value.bool h
 | some o =>
  obtain⟨v,k1⟩:=o
  obtain⟨h1,h2,h3⟩:=h
  exact⟨congrArg Value.bool h1,(h2.bound.weaken (D':=fun g=>D g∧g≠w2.heap.size) fun g hg=>⟨hg.1.1,by have:=hg.2;omega⟩).below (Zab _ _),h3.below (Zab _ _)⟩
theorem XB.lateD {rb prb:Nat}{D:Nat→Prop}{O:Option (PV×Nat)}{wr w2:World}(hT:Zaa (·=rb) wr.drew w2){k z:Int}{s:ByteArray}{ad:Option Addr}{n c:Nat}{b:Bool}(h:XR rb prb (Dx D wr wr.drew) O w2 k z s ad n c b):
  XB rb prb D O wr (w2.alloc (Zce (.int .u8 k) (.int .i64 z) (.string s) (.slice ad n c))) (.pointer (some ⟨w2.heap.size,0,none⟩)) (.bool b) :=
 XB.late (wr:=wr) (X:=wr.drew) rfl (Zaa.trans (Zaa.drew (Zaa.refl (·=rb) wr)) hT) h
theorem XB.early {rb prb:Nat}{D:Nat→Prop}{O:Option (PV×Nat)}{wr X w2:World}(hz:X.heap[wr.heap.size]?=some Zaz)(hX:Zaa (·=rb) wr X)(hr:rb<wr.heap.size)(hT:Zaa (·=rb) X w2){k z:Int}{s:ByteArray}{ad:Option Addr}{n c:Nat}{b:Bool}(h:XR rb prb (Dx D wr X) O w2 k z s ad n c b):
  XB rb prb D O wr ((((w2.setCell ⟨wr.heap.size,0,none⟩ (.int .u8 k)).setCell ⟨wr.heap.size,1,none⟩ (.int .i64 z)).setCell ⟨wr.heap.size,2,none⟩ (.string s)).setCell ⟨wr.heap.size,3,none⟩ (.slice ad n c)) (.pointer (some ⟨wr.heap.size,0,none⟩)) (.bool b):=by
 have hlt:=Zag hz
 have h0:w2.heap[wr.heap.size]?=some Zaz:=by rw[hT.block _ hlt (by omega)];exact hz
 have e1:(w2.setCell ⟨wr.heap.size,0,none⟩ (.int .u8 k)).heap[wr.heap.size]?=some (Zce (.int .u8 k) (.int .i64 0) (.string ⟨#[]⟩) (.slice none 0 0)):=by rw[Zau h0];simp
 have e2:((w2.setCell ⟨wr.heap.size,0,none⟩ (.int .u8 k)).setCell ⟨wr.heap.size,1,none⟩ (.int .i64 z)).heap[wr.heap.size]?=some (Zce (.int .u8 k) (.int .i64 z) (.string ⟨#[]⟩) (.slice none 0 0)):=by rw[Zau e1];simp
 have e3:(((w2.setCell ⟨wr.heap.size,0,none⟩ (.int .u8 k)).setCell ⟨wr.heap.size,1,none⟩ (.int .i64 z)).setCell ⟨wr.heap.size,2,none⟩ (.string s)).heap[wr.heap.size]?=some (Zce (.int .u8 k) (.int .i64 z) (.string s) (.slice none 0 0)):=by rw[Zau e2];simp
 refine⟨Zcf (hX.trans hT) (Nat.le_refl _) _ _ _ _,wr.heap.size,k,z,s,ad,n,c,rfl,Nat.le_refl _,by rw[Zau e3];simp,?_⟩
 cases O with
 | none=>exact congrArg Value.bool h
 | some o =>
  obtain⟨v,k1⟩:=o
  obtain⟨h1,h2,h3⟩:=h
  exact⟨congrArg Value.bool h1,(h2.weaken (D':=fun g=>D g∧g≠wr.heap.size) fun g hg=>⟨hg.1,by have:=hg.2;omega⟩).res (b:=wr.heap.size) (fun g hg=>hg.2) _ _ _ _,h3.same (Zej _ _ _ _ _ _ rb (by omega))⟩
theorem XB.drew {rb prb:Nat}{D:Nat→Prop}{O:Option (PV×Nat)}{wr wx:World}{v10 v11:Value}(h:XB rb prb D O wr wx v10 v11):XB rb prb D O wr wx.drew v10 v11:=by
 obtain⟨h1,B,k,z,s,ad,n,c,h2,h3,h4,h5⟩:=h
 refine⟨h1.drew,B,k,z,s,ad,n,c,h2,h3,h4,?_⟩
 cases O with
 | none=>exact h5
 | some o =>
  obtain⟨v,k1⟩:=o
  exact⟨h5.1,h5.2.1.heap rfl,h5.2.2.same rfl⟩
section
variable {w:World} {rb prb:Nat}
theorem rf_call (D:Nat→Prop)(hDr:¬ D rb)(hDn:∀g,w.heap.size≤g→D g){k:Nat}(hR:RK w rb prb k)(pn:Int)(psx:ByteArray)(pa:Nat)(kad:Option Addr)(kn kc:Nat)(vs:List PV)(sl:Value)(cs:List Value)(hseg:Zar w D 46 4 sl vs.length cs)(hvs:RVs w D vs cs)(hf:∀v∈vs,Zec v)(C:Nat→List PV→Option (PV×Nat))(cc:Zv7 w rb prb k vs.length psx C):
  Calls prog 170 #[.pointer (some ⟨rb,0,none⟩),.agg #[.string ⟨#[99,97,108,108]⟩,.int .i64 pn,.string psx,.int .i64 ((pa:Nat):Int),.slice kad kn kc],sl] w (Zct rb prb D (C k vs) w):=by
 obtain⟨ad,cap,rfl⟩:=hseg.slice
 have lr:=hR.lt
 have hB:Below w.heap.size w ((w.alloc (.cells #[.string ⟨#[99,97,108,108]⟩,.int .i64 pn,.string psx,.int .i64 ((pa:Nat):Int),.slice kad kn kc] 322)).alloc Zaz):=below2 w _ _
 have hz:((w.alloc (.cells #[.string ⟨#[99,97,108,108]⟩,.int .i64 pn,.string psx,.int .i64 ((pa:Nat):Int),.slice kad kn kc] 322)).alloc Zaz).heap[w.heap.size+1]?=some Zaz:=by
  have:=heap_alloc_new (w.alloc (.cells #[.string ⟨#[99,97,108,108]⟩,.int .i64 pn,.string psx,.int .i64 ((pa:Nat):Int),.slice kad kn kc] 322)) Zaz
  simpa using this
 have hTw:Zaa (·=rb) w ((w.alloc (.cells #[.string ⟨#[99,97,108,108]⟩,.int .i64 pn,.string psx,.int .i64 ((pa:Nat):Int),.slice kad kn kc] 322)).alloc Zaz):=Zaa.of_below hB
 have cx:=cc _ (fun g=>D g∧g≠w.heap.size+1) k vs _ cs hTw (fun h=>hDr h.1) (fun g hg=>by simp at hg;exact⟨hDn g (by omega),by omega⟩) (hR.below hB) (Nat.le_refl _) ((((hseg.keep (w':=w) fun _ _ _=>rfl).weaken (D':=fun g=>D g∧g≠w.heap.size+1) fun g hg=>⟨hg.1,by have:=hg.2;omega⟩)).below hB) ((hvs.bound.weaken (D':=fun g=>D g∧g≠w.heap.size+1) fun g hg=>⟨hg.1,by have:=hg.2;omega⟩).below hB) rfl hf
 have n1:w.heap.size+1≠rb:=by omega
 clear hseg hvs hf hR cc
 generalize C k vs=O at *
 cases O with
 | none =>
  have cx2:Calls prog 73 #[.pointer (some ⟨rb,0,none⟩),.string psx,.slice ad vs.length cap] ((w.alloc (.cells #[.string ⟨#[99,97,108,108]⟩,.int .i64 pn,.string psx,.int .i64 ((pa:Nat):Int),.slice kad kn kc] 322)).alloc Zaz) fun e w'=>Zaa (·=rb) ((w.alloc (.cells #[.string ⟨#[99,97,108,108]⟩,.int .i64 pn,.string psx,.int .i64 ((pa:Nat):Int),.slice kad kn kc] 322)).alloc Zaz) w'∧∃(k z:Int) (s:ByteArray) (ad:Option Addr) (n c:Nat),e=.returned (.tuple #[.agg #[.int .u8 k,.int .i64 z,.string s,.slice ad n c],.bool false]):=cx
  clear cx
  go_enter func170,ntmps170
  go_wp2_with (go_at_call 73;refine cx2.mono ?_;rintro e w2 ⟨ht,kk,zz,ss,xad,xn,xc,rfl⟩;obtain⟨q0,q1,q2,q3,qf,ll⟩:=Ze9 hz ht n1;have qf0:=qf 0;have qf1:=qf 1;have qf2:=qf 2;have qf3:=qf 3)
  refine bodyPost_ret (v:=.tuple #[.agg #[.int .u8 kk,.int .i64 zz,.string ss,.slice xad xn xc],.bool false]) (by simp[results,results170,go_sem,q0,q1,q2,q3]) rfl (Zdv rfl (Zcf (hTw.trans ht) (by omega) _ _ _ _))
 | some O =>
  obtain⟨v,k'⟩:=O
  have cx2:Calls prog 73 #[.pointer (some ⟨rb,0,none⟩),.string psx,.slice ad vs.length cap] ((w.alloc (.cells #[.string ⟨#[99,97,108,108]⟩,.int .i64 pn,.string psx,.int .i64 ((pa:Nat):Int),.slice kad kn kc] 322)).alloc Zaz) fun e w'=>Zaa (·=rb) ((w.alloc (.cells #[.string ⟨#[99,97,108,108]⟩,.int .i64 pn,.string psx,.int .i64 ((pa:Nat):Int),.slice kad kn kc] 322)).alloc Zaz) w'∧∃x:Value,e=.returned (.tuple #[x,.bool true])∧RV w' (fun g=>D g∧g≠w.heap.size+1) v x∧RK w' rb prb k':=cx
  clear cx
  go_enter func170,ntmps170
  go_wp2_with (go_at_call 73;refine cx2.mono ?_;rintro e w2 ⟨ht,x,rfl,hx,hk2⟩;obtain⟨kk,zz,ss,xad,xn,xc,rfl,hkk⟩:=hx.parts;obtain⟨q0,q1,q2,q3,qf,ll⟩:=Ze9 hz ht n1;have qf0:=qf 0;have qf1:=qf 1;have qf2:=qf 2;have qf3:=qf 3)
  refine bodyPost_ret (v:=.tuple #[.agg #[.int .u8 (kk:Int),.int .i64 zz,.string ss,.slice xad xn xc],.bool true]) (by simp[results,results170,go_sem,q0,q1,q2,q3]) rfl (Zgo rfl (Zcf (hTw.trans ht) (by omega) _ _ _ _) ?_ ?_)
  ·exact ((hx.res (b:=w.heap.size+1) (fun k hk=>hk.2) _ _ _ _).weaken (fun k hk=>hk.1))
  ·exact RK.same hk2 (Zej _ _ _ _ _ _ rb (by omega))
end
def Zif (us:List PV):Option (List PV×Nat)→Option (List PV×Nat)
 | none=>none
 | some (r,k)=>some (us++r,k)
theorem evM_none {C:Nat→PV→Option (PV×Nat)}{k kq q:Nat}{l us:List PV}(hq:q<l.length)(h:evM C k l=Zif us (evM C kq (l.drop q)))(hc:C kq l[q]=none):evM C k l=none:=by
 rw[h,List.drop_eq_getElem_cons hq,evM,hc]
 rfl
theorem evM_some {C:Nat→PV→Option (PV×Nat)}{k kq k1 q:Nat}{l us:List PV}{u:PV}(hq:q<l.length)(h:evM C k l=Zif us (evM C kq (l.drop q)))(hc:C kq l[q]=some (u,k1)):evM C k l=Zif (us++[u]) (evM C k1 (l.drop (q+1))):=by
 rw[h,List.drop_eq_getElem_cons hq,evM,hc]
 cases hh:evM C k1 (l.drop (q+1)) with
 | none=>simp only[hh];rfl
 | some x=>obtain⟨r,k2⟩:=x;simp only[hh,Zif];simp
theorem evM_end {C:Nat→PV→Option (PV×Nat)}{k kq:Nat}{l us:List PV}(h:evM C k l=Zif us (evM C kq (l.drop l.length))):evM C k l=some (us,kq):=by
 rw[h,List.drop_eq_nil_of_le (Nat.le_refl _),evM]
 simp[Zif]
structure MS (w wr:World)(rb:Nat)(D:Nat→Prop)(po:Obj)(us:List PV)(sl:Value)(cs:List Value):Prop where
 tw:Zaa (·=rb) w wr
 b0:wr.heap[w.heap.size]?=some po
 b1:wr.heap[w.heap.size+1]?=some Zaz
 b2:wr.heap[w.heap.size+1+1]?=some (Zce (.int .u8 108) (.int .i64 0) (.string ⟨#[]⟩) sl)
 gr:GR wr (w.heap.size+3) (fun g=>D g∧(g<w.heap.size∨w.heap.size+1+1<g)) us sl cs
section
variable {w wr w2:World} {rb:Nat} {D:Nat→Prop} {po:Obj} {us:List PV} {sl:Value} {cs:List Value}
theorem MS.lt (h:MS w wr rb D po us sl cs):w.heap.size+1+1<wr.heap.size:=Zag h.b2
theorem MS.start (w:World)(rb:Nat)(D:Nat→Prop)(po:Obj):MS w (((w.alloc po).alloc Zaz).alloc (Zce (.int .u8 108) (.int .i64 0) (.string ⟨#[]⟩) (.slice none 0 0))) rb D po [] (.slice none 0 0) []:=by
 refine⟨((Zaa.refl _ w).alloc _).alloc _ |>.alloc _,?_,?_,?_,GR.start _ _ _⟩
 ·rw[Za0 _ _ _ (by simp;omega),Za0 _ _ _ (by simp)];exact heap_alloc_new _ _
 ·rw[Za0 _ _ _ (by simp)]
  have:=heap_alloc_new (w.alloc po) Zaz
  simpa using this
 ·have:=heap_alloc_new ((w.alloc po).alloc Zaz) (Zce (.int .u8 108) (.int .i64 0) (.string ⟨#[]⟩) (.slice none 0 0))
  simpa using this
theorem MS.drew (h:MS w wr rb D po us sl cs):MS w wr.drew rb D po us sl cs:=⟨h.tw.drew,h.b0,h.b1,h.b2,h.gr.below ⟨rfl,rfl,rfl,Nat.le_refl _,fun _ _=>rfl⟩⟩
theorem MS.touch (h:MS w wr rb D po us sl cs)(hr:rb<w.heap.size)(hD:¬ D rb)(ht:Zaa (·=rb) wr w2):MS w w2 rb D po us sl cs:=by
 have lt:=h.lt
 exact⟨h.tw.trans ht,by rw[ht.block _ (by omega) (by omega)];exact h.b0,by rw[ht.block _ (by omega) (by omega)];exact h.b1,by rw[ht.block _ (by omega) (by omega)];exact h.b2,h.gr.touch ht (by omega) (fun e=>hD e.1)⟩
theorem MS.push {X w6:World}{sl':Value}{v:PV}{a b c d:Value}(h:MS w w2 rb D po us sl cs)(hv:RV w2 (fun g=>(D g∧(g<w.heap.size∨w.heap.size+1+1<g))∧some g≠sl.ownBlock) v (.agg #[a,b,c,d]))(hX:Below w2.heap.size w2 X)(own6:w6.ownsRow (w.heap.size+3) 46 4 sl' (us.length+1) (cs++[a,b,c,d]))(hg:X.grownBy w6 sl.ownBlock)(ho:sl'.ownBlock=sl.ownBlock∨sl'.ownBlock=some X.heap.size):
  MS w (w6.setCell ⟨w.heap.size+1+1,3,none⟩ sl') rb D po (us++[v]) sl' (cs++[a,b,c,d])∧w6.heap[w.heap.size+1+1]?=some (Zce (.int .u8 108) (.int .i64 0) (.string ⟨#[]⟩) sl):=by
 have lt:=h.lt
 have szX:=hX.size
 have lto:∀g,sl.ownBlock=some g→w.heap.size+3≤g:=fun g e=>(h.gr.own.lt g e).1
 have g6:∀g,g<w2.heap.size→some g≠sl.ownBlock→w6.heap[g]?=w2.heap[g]?:=fun g h1 h2=>by rw[hg.block g (by omega) h2,hX.block g h1]
 have nn:∀g,g<w.heap.size+3→some g≠sl.ownBlock:=fun g h1 e=>by have:=lto g e.symm;omega
 have hS:∀g,g≠w.heap.size+1+1→(w6.setCell ⟨w.heap.size+1+1,3,none⟩ sl').heap[g]?=w6.heap[g]?:=fun g hne=>Below.heap_setCell w6 ⟨w.heap.size+1+1,3,none⟩ _ g hne
 have v2:w6.heap[w.heap.size+1+1]?=some (Zce (.int .u8 108) (.int .i64 0) (.string ⟨#[]⟩) sl):=by rw[g6 _ lt (nn _ (by omega))];exact h.b2
 have t6:Zaa (·=rb) w w6:=⟨by rw[hg.os,hX.os,h.tw.os],by rw[hg.tape,hX.tape,h.tw.tape],by rw[hg.output,hX.output,h.tw.output],by have:=hg.size;have:=h.tw.size;omega,fun g h1 h2=>by
  rw[g6 g (by have:=h.tw.size;omega) (nn g (by omega))]
  exact h.tw.block g h1 h2⟩
 refine⟨⟨t6.setCell (p:=⟨w.heap.size+1+1,3,none⟩) (Or.inr (by show w.heap.size≤w.heap.size+1+1;omega)) _,?_,?_,?_,?_⟩,v2⟩
 ·rw[hS _ (by omega),g6 _ (by omega) (nn _ (by omega))];exact h.b0
 ·rw[hS _ (by omega),g6 _ (by omega) (nn _ (by omega))];exact h.b1
 ·rw[Zau v2];simp
 ·exact (h.gr.push hv hX own6 hg ho).setCell (p:=⟨w.heap.size+1+1,3,none⟩) (by show w.heap.size+1+1<w.heap.size+3;omega) (fun e=>by have h2:w.heap.size+1+1<w.heap.size∨w.heap.size+1+1<w.heap.size+1+1:=e.2;omega) _
end
theorem Zhr (w:World)(a b c d:Value)(t:TypeId)(B:Nat)(hB:B=w.heap.size):Zar (w.alloc (.cells #[a,b,c,d] t)) (fun _=>True) t 4 (.slice (some ⟨B,0,none⟩) 1 1) 1 [a,b,c,d]:=by
 subst hB
 exact⟨rfl,Or.inr ⟨w.heap.size,0,1,#[a,b,c,d],rfl,trivial,heap_alloc_new _ _,Nat.le_refl _,by unfold maxLen;omega,by simp,by simp⟩⟩
section
variable {w:World} {rb prb:Nat}
theorem rf_map (D:Nat→Prop)(hDr:¬ D rb)(hDn:∀g,w.heap.size≤g→D g){k:Nat}(hR:RK w rb prb k)(pn:Int)(psx:ByteArray)(pa:Nat)(kad:Option Addr)(kn kc:Nat)(l:List PV)(sl:Value)(cs:List Value)(hseg:Zar w D 46 4 sl 1 cs)(hvs:RVs w D [.lst l] cs)(hf:∀v∈l,Zec v)(hl:l.length≤600)(C:Nat→List PV→Option (PV×Nat))(cc:Zv7 w rb prb k 1 psx C)(hC:∀k' v u k'',k'≤k→Zec v→C k' [v]=some (u,k'')→Zec u∧k''≤k'):
  Calls prog 170 #[.pointer (some ⟨rb,0,none⟩),.agg #[.string ⟨#[109,97,112]⟩,.int .i64 pn,.string psx,.int .i64 ((pa:Nat):Int),.slice kad kn kc],sl] w (Zct rb prb D (Zcu (evM (fun k v=>C k [v]) k l)) w):=by
 obtain⟨g,o,cap,rfl,hDg,hc1,hc2,hcx⟩:=hseg.cell (by omega)
 clear hcx
 obtain⟨sa,aad,ac,ads,a0,a1,a2,a3,aS,aG,aV,aR⟩:=Zb0 hseg rfl hvs 0 (by simp)
 simp only[List.getElem_cons_zero,Nat.zero_mul,Nat.add_zero,Zbe,Zd1,Za7] at a0 a1 a2 a3 aG aV
 have lr:=hR.lt
 have lg:=Zae a0
 simp only at lg
 have ngr:g≠rb:=fun e=>hDr (e ▸ hDg)
 have n0:w.heap.size≠g:=by omega
 have n1:w.heap.size+1≠g:=by omega
 have n2:w.heap.size+1+1≠g:=by omega
 have n3:w.heap.size+1≠rb:=by omega
 unfold maxLen at hc2
 have ms0:=MS.start w rb D (.cells #[.string ⟨#[109,97,112]⟩,.int .i64 pn,.string psx,.int .i64 ((pa:Nat):Int),.slice kad kn kc] 322)
 have hk0:RK (((w.alloc (.cells #[.string ⟨#[109,97,112]⟩,.int .i64 pn,.string psx,.int .i64 ((pa:Nat):Int),.slice kad kn kc] 322)).alloc Zaz).alloc (Zce (.int .u8 108) (.int .i64 0) (.string ⟨#[]⟩) (.slice none 0 0))) rb prb k:=((hR.below (Zab _ _)).below (Zab _ _)).below (Zab _ _)
 clear hseg hvs aS aR hR
 go_enter func170,ntmps170
 go_wp2_with fail
 go_loopg [9] l.length (fun gh iv wr=>∃(q kq:Nat) (us:List PV) (sl:Value) (cs:List Value),gh=l.length-q∧iv=.int .i64 ((q:Nat):Int)∧q≤l.length∧us.length=q∧(∀u∈us,wtV u≤600)∧kq≤k∧RK wr rb prb kq∧MS w wr rb D (.cells #[.string ⟨#[109,97,112]⟩,.int .i64 pn,.string psx,.int .i64 ((pa:Nat):Int),.slice kad kn kc] 322) us sl cs∧Aside (evM (fun k v=>C k [v]) k l=Zif us (evM (fun k v=>C k [v]) kq (l.drop q))))
 case atStart =>
  refine⟨0,k,[],.slice none 0 0,[],by omega,rfl,by omega,rfl,by simp,Nat.le_refl _,hk0,ms0,?_⟩
  show _=_
  rw[List.drop_zero]
  cases evM (fun k v=>C k [v]) k l with
  | none=>rfl
  | some x=>rfl
 case round =>
  obtain⟨q,kq,us,sl,cs',rfl,rfl,hq,hul,hus,hkq,hk,ms,hE⟩:=hrel
  have ltw:=ms.lt
  have hsz:=ms.tw.size
  obtain⟨p0,p1,p2,p3,pf⟩:=Zak ms.b2
  obtain⟨z0,z1,z2,z3,zf⟩:=Zak ms.b1
  have y2:wr.cell? ⟨w.heap.size,2,none⟩=some (.string psx):=by unfold World.cell?;rw[ms.b0];rfl
  have c3:wr.cell? ⟨g,o+3,none⟩=some (.slice aad l.length ac):=ms.tw.cell a3 ngr
  obtain⟨oad,ocap,hos⟩:∃ad cap,sl=.slice ad us.length cap:=(Zar.of_row (Zao.of_owns ms.gr.own)).slice
  subst hos
  by_cases hlt:q<l.length
  ·obtain⟨g2,o2,cap2,e2,hDg2,hd1,hd2,hcx2⟩:=aG.cell (by omega)
   clear hcx2
   simp only[Value.slice.injEq] at e2
   obtain⟨rfl,_,rfl⟩:=e2
   have hsub:=aG.sub q 1 (by omega) (by omega)
   obtain⟨vq,hvq⟩:∃vq,l[q]=vq:=⟨_,rfl⟩
   have hone:RVs w D [vq] ((ads.drop (q*4)).take (1*4)):=by
    have:=(aV.drop q).take 1
    rw[List.drop_eq_getElem_cons hlt,List.take_succ_cons,List.take_zero,hvq] at this
    exact this
   have hfv:Zec vq:=by rw[←hvq];exact hf _ (List.getElem_mem hlt)
   have hlo:∀g',(Value.slice oad us.length ocap).ownBlock=some g'→w.heap.size+3≤g':=fun g' e=>(ms.gr.own.lt g' e).1
   have key:∀g',D g'∧g'<w.heap.size→(D g'∧(g'<w.heap.size∨w.heap.size+1+1<g'))∧some g'≠(Value.slice oad us.length ocap).ownBlock:=fun g' hg=>⟨⟨hg.1,Or.inl hg.2⟩,fun e=>by have:=hlo g' e.symm;omega⟩
   have CX:∀X:World,Zlc wr X→Calls prog 73 #[.pointer (some ⟨rb,0,none⟩),.string psx,.slice (some ⟨g2,o2+q*4,none⟩) 1 (ac-q)] X (Zct rb prb (Dx (fun g'=>(D g'∧(g'<w.heap.size∨w.heap.size+1+1<g'))∧some g'≠(Value.slice oad us.length ocap).ownBlock) wr X) (C kq [vq]) X):=fun X hN=>by
    have hBX:=hN.below
    have hTX:=ms.tw.trans hN.touch
    have hXs:=hBX.size
    refine cc X _ kq [vq] _ ((ads.drop (q*4)).take (1*4)) hTX (fun h=>hDr h.1.1.1) (fun g' hg'=>⟨⟨⟨hDn g' (by omega),Or.inr (by omega)⟩,fun e=>by have:=(ms.gr.own.lt g' e.symm).2;omega⟩,Or.inr hg'⟩) (hk.same (hBX.block rb (by omega))) hkq ?_ ?_ rfl (fun v hv=>by simp at hv;rw[hv];exact hfv)
    ·exact ((hsub.keep (w':=w) fun _ _ _=>rfl).touch hTX fun k' hk' e=>hDr (e ▸ hk'.1)).weaken fun g' hg'=>⟨key g' hg',Or.inl (by have:=hg'.2;omega)⟩
    ·exact (hone.bound.touch hTX fun k' hk' e=>hDr (e ▸ hk'.1)).weaken fun g' hg'=>⟨key g' hg',Or.inl (by have:=hg'.2;omega)⟩
   have MSA:Aside (MS w wr rb D (.cells #[.string ⟨#[109,97,112]⟩,.int .i64 pn,.string psx,.int .i64 ((pa:Nat):Int),.slice kad kn kc] 322) us (.slice oad us.length ocap) cs'):=ms
   have hcq:ac≠q:=by omega
   have hqi:((q:Nat):Int)<((l.length:Nat):Int):=by omega
   have hqw:IntKind.i64.wrap (((q:Nat):Int)+1)=((q+1:Nat):Int):=by rw[IntKind.wrap_i64];omega
   have hrw:rb<wr.heap.size:=by omega
   have nrw:wr.heap.size≠rb:=by omega
   have hgw:g<wr.heap.size:=by omega
   have ngw:wr.heap.size≠g:=by omega
   have ngv:g≠wr.heap.size:=by omega
   have nw0:wr.heap.size≠w.heap.size:=by omega
   have nv0:w.heap.size≠wr.heap.size:=by omega
   have lw0:w.heap.size<wr.heap.size:=by omega
   unfold maxLen at hd2
   have HUL:Aside (us.length=q):=hul
   have HE:=hE
   have HUS:Aside (∀u∈us,wtV u≤600):=hus
   clear hE ms hsub hone aG aV cc hf hk hul key hlo hDn hus
   go_wp2_with fail
   go_cut [10,11] from 41 to 73 (fun v10 v11 wx=>XB rb prb (fun g'=>(D g'∧(g'<w.heap.size∨w.heap.size+1+1<g'))∧some g'≠(Value.slice oad us.length ocap).ownBlock) (C kq [vq]) wr wx v10 v11)
   case first =>
    generalize hDX:(fun g'=>(D g'∧(g'<w.heap.size∨w.heap.size+1+1<g'))∧some g'≠(Value.slice oad us.length ocap).ownBlock)=DX at *
    have CX2:Hid (∀X:World,Zlc wr X→Calls prog 73 #[.pointer (some ⟨rb,0,none⟩),.string psx,.slice (some ⟨g2,o2+q*4,none⟩) 1 (ac-q)] X fun e w'=>Zaa (·=rb) X w'∧∃(k z:Int) (s:ByteArray) (ad:Option Addr) (n c:Nat) (b:Bool),e=.returned (.tuple #[.agg #[.int .u8 k,.int .i64 z,.string s,.slice ad n c],.bool b])∧XR rb prb (Dx DX wr X) (C kq [vq]) w' k z s ad n c b):=fun X hX=>(CX X hX).mono fun e w' h=>Zld h
    generalize C kq [vq]=O at *
    clear hDX HE CX ms0 hk0 MSA HUL HUS hC a0 a1 a2 hvq hfv hkq hDg hDg2 p0 p1 p2 p3 pf z0 z1 z2 z3 zf
    go_region_with (first
     |(go_at_call 73;refine (CX2.out _ ?_).mono ?_;(exact⟨rfl,rfl,rfl,Or.inr rfl⟩);rintro e w2 ⟨ht,kk,zz,ss,xad,xn,xc,bb,rfl,hxr⟩;obtain⟨⟨q0,q1,q2,q3,qf,ll⟩,hzz⟩:=Zhv (wr:=wr) ht rfl nrw;have qf0:=qf 0;have qf1:=qf 1;have qf2:=qf 2;have qf3:=qf 3;clear qf)
     |(go_at_call 73;refine (CX2.out _ ?_).mono ?_;(exact⟨rfl,rfl,rfl,Or.inl rfl⟩);rintro e w2 ⟨ht,kk,zz,ss,xad,xn,xc,bb,rfl,hxr⟩))
    all_goals go_wp2_with fail
    all_goals go_meet
    all_goals first
     | exact XB.early hzz ((Zaa.refl _ wr).alloc _).drew hrw ht hxr
     | exact XB.early hzz ((Zaa.refl _ wr).alloc _) hrw ht hxr
     | exact XB.lateD ht hxr
   case rest =>
    obtain⟨ht,B,kk,zz,ss,xad,xn,xc,rfl,hB,hblk,hm⟩:=hcut
    have msc:=MSA.out.touch lr hDr ht
    have ltc:=msc.lt
    have lB:=Zag hblk
    obtain⟨x0,x1,x2,x3,xf⟩:=Zak hblk
    obtain⟨r0,r1,r2,r3,rf⟩:=Zak msc.b2
    obtain⟨q0,q1,q2,q3,qf⟩:=Zak msc.b1
    clear CX p0 p1 p2 p3 pf z0 z1 z2 z3 zf y2 c3 ms0 hk0 xf a0 a1 a2
    cases hO:C kq [vq] with
    | none =>
     rw[hO] at hm
     obtain rfl:u11=.bool false:=hm
     have hev:Aside (Zcu (evM (fun k v=>C k [v]) k l)=none):=by
      show _=_
      rw[evM_none hlt HE.out (by rw[hvq];exact hO)]
      rfl
     clear hO HE msc hblk
     go_wp2
     refine bodyPost_ret (v:=.tuple #[.agg #[.int .u8 0,.int .i64 0,.string ⟨#[]⟩,.slice none 0 0],.bool false]) (by simp[results,results170,go_sem,q0,q1,q2,q3]) rfl (Zdv hev.out ?_)
     exact Zcf (MSA.out.tw.trans ht) (by omega) _ _ _ _
    | some O =>
     obtain⟨u,k1⟩:=O
     rw[hO] at hm
     obtain⟨rfl,hRV,hK1⟩:u11=.bool true∧RV wc (fun g'=>((D g'∧(g'<w.heap.size∨w.heap.size+1+1<g'))∧some g'≠(Value.slice oad us.length ocap).ownBlock)∧g'≠B) u (.agg #[.int .u8 kk,.int .i64 zz,.string ss,.slice xad xn xc])∧RK wc rb prb k1:=hm
     have hRV2:=hRV.weaken (D':=fun g'=>(D g'∧(g'<w.heap.size∨w.heap.size+1+1<g'))∧some g'≠(Value.slice oad us.length ocap).ownBlock) fun g' h=>h.1
     obtain⟨hFu,hk1⟩:=hC kq vq u k1 hkq hfv hO
     have hE2:Aside (evM (fun k v=>C k [v]) k l=Zif (us++[u]) (evM (fun k v=>C k [v]) k1 (l.drop (q+1)))):=evM_some hlt HE.out (by rw[hvq];exact hO)
     have HRV:Aside (RV wc (fun g'=>(D g'∧(g'<w.heap.size∨w.heap.size+1+1<g'))∧some g'≠(Value.slice oad us.length ocap).ownBlock) u (.agg #[.int .u8 kk,.int .i64 zz,.string ss,.slice xad xn xc])):=hRV2
     have HK1:Aside (RK wc rb prb k1):=hK1
     have MSC:Aside (MS w wc rb D (.cells #[.string ⟨#[109,97,112]⟩,.int .i64 pn,.string psx,.int .i64 ((pa:Nat):Int),.slice kad kn kc] 322) us (.slice oad us.length ocap) cs'):=msc
     have hcx3:∀p:Addr,p.block<w.heap.size→p.block≠rb→True:=fun _ _ _=>trivial
     clear hO HE MSA hRV hRV2 hK1 msc hblk qf q0 q1 q2 q3 hcx3 hC
     have nB:B≠wc.heap.size:=by omega
     have nB2:wc.heap.size≠w.heap.size+1+1:=by omega
     go_wp2_with (at_builtin;obtain⟨i0,hi,hz0,hz1,hz2⟩:=info_parts Tryz.infoVal;refine Zbs (D:=fun _=>True) rfl _ _ 44 rfl (w.heap.size+3) 46 i0 (.agg #[.int .u8 0,.int .i64 0,.string ⟨#[]⟩,.slice none 0 0]) 4 56 underlying44 hi hz0 hz1 hz2 rfl (by decide) (.slice oad us.length ocap) us.length cs' rfl (MSC.out.gr.own.alloc _) (.slice (some ⟨wc.heap.size,0,none⟩) 1 1) 1 [.int .u8 kk,.int .i64 zz,.string ss,.slice xad xn xc] rfl (Zhr _ _ _ _ _ _ _ rfl) (fun x hx=>by simp at hx;rcases hx with rfl | rfl | rfl | rfl<;>rfl) (by have:=HUL.out;unfold maxLen;omega) (by have:=HUL.out;omega) (by simp;omega) ?_;intro sl' w6 hown' hgrow hob;clear hi hz0 hz1 hz2;obtain⟨sad,scap,rfl⟩:∃ad cap,sl'=.slice ad (us.length+1) cap:=(Zar.of_row (Zao.of_owns hown')).slice;have hps:=MSC.out.push HRV.out (Zab wc _) hown' hgrow hob;obtain⟨t0,t1,t2,t3,tf⟩:=Zak hps.2;have tf3:=tf 3)
     go_roundg (l.length-(q+1))
     case measure=>omega
     case rel =>
      refine⟨q+1,k1,us++[u],.slice sad (us.length+1) scap,cs'++[.int .u8 kk,.int .i64 zz,.string ss,.slice xad xn xc],rfl,by go_num,by omega,by have:=HUL.out;simp;omega,?_,by omega,?_,hps.1,hE2⟩
      ·intro v hv
       rcases List.mem_append.1 hv with h | h
       ·exact HUS.out v h
       ·simp at h
        rw[h]
        exact hFu.2
      ·refine HK1.out.same ?_
       rw[Below.heap_setCell w6 ⟨w.heap.size+1+1,3,none⟩ _ rb (by show rb≠w.heap.size+1+1;omega),hgrow.block rb (by simp;omega) (fun e=>by have:=(MSC.out.gr.own.lt rb e.symm).1;omega),Za0 _ _ _ (by omega)]
  ·have hqq:q=l.length:=by omega
   subst hqq
   have hev:evM (fun k v=>C k [v]) k l=some (us,kq):=evM_end hE.out
   have hwt:=Zuj us hus
   have hV:RV wr (fun g=>D g∧g≠w.heap.size+1) (.lst us) (.agg #[.int .u8 108,.int .i64 0,.string ⟨#[]⟩,.slice oad us.length ocap]):=by
    rw[RV]
    refine⟨_,cs',rfl,(Zar.of_row (Zao.of_owns ms.gr.own)).weaken fun g' hg'=>?_,ms.gr.rvs.weaken fun g' hg'=>⟨hg'.1.1,by rcases hg'.1.2 with h | h<;>omega⟩⟩
    have h3:w.heap.size+3≤g':=hg'
    exact⟨hDn g' (by omega),by omega⟩
   have clt:=Zj3 _ (.lst us) _ _ (by rw[wtV];omega) hV
   have HUL:Aside (us.length=l.length):=hul
   have hz:=ms.b1
   have HV:Aside (RV wr (fun g=>D g∧g≠w.heap.size+1) (.lst us) (.agg #[.int .u8 108,.int .i64 0,.string ⟨#[]⟩,.slice oad us.length ocap])):=hV
   have HK:Aside (RK wr rb prb kq):=hk
   have HT:Aside (Zaa (·=rb) w wr):=ms.tw
   clear hV ms hk hE aG aV cc hf hC ms0 hk0 a0 a1 a2 hus hul pf
   by_cases hw:wtV (.lst us)≤600
   ·have HO:Aside (Zcu (evM (fun k v=>C k [v]) k l)=some (.lst us,kq)):=by show _=_;rw[hev];simp[Zcu,hw]
    rw[decide_eq_true hw] at clt
    clear hw hwt hev
    go_wp2_with (go_at_call 205;refine clt.mono ?_;rintro e w2 ⟨rfl,hb2⟩;obtain⟨q0,q1,q2,q3,qf,ll⟩:=Zhb hz hb2)
    refine bodyPost_ret (v:=.tuple #[.agg #[.int .u8 108,.int .i64 0,.string ⟨#[]⟩,.slice oad us.length ocap],.bool true]) (by simp[results,results170,go_sem,q0,q1,q2,q3]) rfl (Zgo HO.out ?_ ?_ ?_)
    ·exact Zcf (HT.out.trans (Zaa.of_below hb2)) (by omega) _ _ _ _
    ·exact (((HV.out.below hb2).res (b:=w.heap.size+1) (fun k hk=>hk.2) _ _ _ _).weaken (fun k hk=>hk.1))
    ·exact RK.same (HK.out.below hb2) (Zej _ _ _ _ _ _ rb (by omega))
   ·have HO:Aside (Zcu (evM (fun k v=>C k [v]) k l)=none):=by show _=_;rw[hev];simp[Zcu,hw]
    rw[decide_eq_false hw] at clt
    clear hw hwt hev
    go_wp2_with (go_at_call 205;refine clt.mono ?_;rintro e w2 ⟨rfl,hb2⟩;obtain⟨q0,q1,q2,q3,qf,ll⟩:=Zhb hz hb2)
    exact bodyPost_ret (v:=.tuple #[.agg #[.int .u8 108,.int .i64 0,.string ⟨#[]⟩,.slice oad us.length ocap],.bool false]) (by simp[results,results170,go_sem,q0,q1,q2,q3]) rfl (Zdv HO.out (Zcf (HT.out.trans (Zaa.of_below hb2)) (by omega) _ _ _ _))
theorem Zsw (D:Nat→Prop){k:Nat}(hR:RK w rb prb k)(pn:Int)(psx:ByteArray)(pa:Nat)(kad:Option Addr)(kn kc:Nat)(a:PV)(sl:Value)(cs:List Value)(hseg:Zar w D 46 4 sl 1 cs)(hvs:RVs w D [a] cs)(ha:Zbe a≠108):
  Calls prog 170 #[.pointer (some ⟨rb,0,none⟩),.agg #[.string ⟨#[109,97,112]⟩,.int .i64 pn,.string psx,.int .i64 ((pa:Nat):Int),.slice kad kn kc],sl] w (Zct rb prb D none w):=by
 obtain⟨g,o,cap,rfl,hDg,hc1,hc2,hcx⟩:=hseg.cell (by omega)
 clear hcx
 obtain⟨sa,aad,ac,ads,a0,a1,a2,a3,aS,aG,aV,aR⟩:=Zb0 hseg rfl hvs 0 (by simp)
 simp only[List.getElem_cons_zero,Nat.zero_mul,Nat.add_zero] at a0 a1 a2 a3 aG aV
 have lr:=hR.lt
 have lg:=Zae a0
 simp only at lg
 have n0:w.heap.size≠g:=by omega
 have n1:w.heap.size+1≠g:=by omega
 unfold maxLen at hc2
 have hka:¬ ((Zbe a:Int)=108):=by omega
 generalize (Zbe a:Int)=ka at *
 clear hseg hvs aS aR aG aV hR ha
 go_enter func170,ntmps170
 go_wp2
 exact bodyPost_ret (v:=.tuple #[.agg #[.int .u8 0,.int .i64 0,.string ⟨#[]⟩,.slice none 0 0],.bool false]) (by simp[results,results170,go_sem]) rfl (Zdv rfl (Zaa.of_below (below2 w _ _)))
end
end Go.Proofs.YtliapghpeoaonaaGreatDoor
