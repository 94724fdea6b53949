/-
  Frames, the program: Frame.
-/
import Derived.Test.YtifhgjpglicjbaaGreatDoorFsM
import Derived.Test.YtifhgjpglicjbaaGreatDoorLawB
import Derived.Deep.QuietTactic
set_option maxHeartbeats 4000000
set_option maxRecDepth 8000
namespace Go.Proofs.YtifhgjpglicjbaaGreatDoor
open Go.Proofs.Tryz
open Go.RowKit Go.Lib Go.MuLone
attribute [local go_sem ↓] Go.wp_at_zero Go.wp_at_succ
theorem AppAt.upd {w:World}{ab:Nat}{fns:List Fn}{lk lk':Int}{c:AC}{a a':PA}(h:AppAt w ab fns lk c a)(j:Nat)(u:Value)(hc:(appCells lk c a).setIfInBounds j u=appCells lk' c a')(h1:a'.model=a.model)(h2:a'.queue=a.queue)(h3:a'.shown=a.shown)(h4:a'.greatest=a.greatest)(h5:a'.S=a.S∧a'.was=a.was∧a'.foe=a.foe∧a'.pd=a.pd:=by exact⟨rfl,rfl,rfl,rfl⟩):AppAt (w.setCell ⟨ab,j,none⟩ u) ab fns lk' c a':=by
 obtain⟨s1,s2,_⟩:=h.set j u
 obtain⟨h5,h6,h7,h8⟩:=h5
 refine⟨by rw[←hc];exact s1,⟨by unfold PD;rw[h8];exact s2.prog,by rw[h1,h7];exact s2.model,by rw[h2,h7];exact s2.queue,by rw[h3,h7];exact s2.shown,s2.flt,s2.num,s2.hm,by rw[h1];exact s2.fm,by rw[h2];exact s2.fq,by rw[h3];exact s2.ok,by rw[h3,h4];exact s2.nm,by rw[h2];exact s2.hq,⟨by rw[h5,h6];exact s2.out.keep,by rw[h5];exact s2.out.sA,by rw[h3,h5];exact s2.out.sN,by rw[h5];exact s2.out.sQ,by rw[h7];exact s2.out.fo⟩⟩⟩
def frP (w:World)(ab:Nat)(fns:List Fn)(c:AC)(a:PA)(k:Ln)(z:Nat)(e:Ending)(w':World):Prop :=
 ∃n F,e=.returned .nilIface∧Made k n F∧Below ab w w'∧AppAt w' ab fns 0 c { a with handled:=false,shown:=some (numA n (bareO a.shown) a.greatest).1,greatest:=(numA n (bareO a.shown) a.greatest).2,lazies:=a.lazies+z,frames:=a.frames+1 }
theorem Frame_ok {fns:List Fn}(hP:ProgOk fns)(hU:UniqF fns){w:World}{ab:Nat}{c:AC}{a:PA}(h:AppAt w ab fns 0 c a)(hd:a.shown=none∨a.handled=true)(v:PV)(f:Nat)(k:Ln)(c' z':Nat)(e1:reckP fns viewB.data.toList [a.model]=some v)(e2:lookA fns f 0 0 v a.shown=some (k,c',z'))(hg:a.greatest≤900000000)(hz:a.lazies≤900000000)(hfr:a.frames≤900000000):
  Calls prog 16 #[.pointer (some ⟨ab,0,none⟩)] w (frP w ab fns c a k z'):=by
 have h1:=h.lock 1
 have b1:Below ab w (w.setCell ⟨ab,0,none⟩ (.int .i32 1)):=(h.set 0 _).2.2
 have c0:w.cell? ⟨ab,0,none⟩=some (.int .i32 0):=h.cell 0
 have f0:=h.frozen 0
 obtain⟨W1,hW1⟩:∃W1,W1=w.setCell ⟨ab,0,none⟩ (.int .i32 1):=⟨_,rfl⟩
 rw[←hW1] at h1 b1
 have CLock:=(lock_free muLib ⟨ab,0,none⟩ _ c0 f0).mono (fun e w' (hp:_∧_)=>(⟨hp.1,hp.2.trans hW1.symm⟩:e=.returned (.tuple #[])∧w'=W1))
 have c6:W1.cell? ⟨ab,6,none⟩=some (valN a.shown):=h1.cell 6
 have c5:W1.cell? ⟨ab,5,none⟩=some (.bool a.handled):=h1.cell 5
 have f5:=h1.frozen 5
 have h2:AppAt (W1.setCell ⟨ab,5,none⟩ (.bool false)) ab fns 1 c { a with handled:=false }:=h1.upd 5 _ rfl rfl rfl rfl rfl
 have b2:Below ab w (W1.setCell ⟨ab,5,none⟩ (.bool false)):=b1.trans (h1.set 5 _).2.2
 have CSX:Hid (∀X,Below (W1.setCell ⟨ab,5,none⟩ (.bool false)).heap.size (W1.setCell ⟨ab,5,none⟩ (.bool false)) X→Calls prog 34 #[.pointer (some ⟨ab,0,none⟩)] X (shP X ab fns 1 c { a with handled:=false } k z')):=fun X hX=>show_ok hP hU (h2.below hX) v f k c' z' e1 e2 hg hz
 have FIN:Hid (∀X Y n F,Below (W1.setCell ⟨ab,5,none⟩ (.bool false)).heap.size (W1.setCell ⟨ab,5,none⟩ (.bool false)) X→Made k n F→Below ab X Y→AppAt Y ab fns 1 c { a with handled:=false,shown:=some (numA n (bareO a.shown) a.greatest).1,greatest:=(numA n (bareO a.shown) a.greatest).2,lazies:=a.lazies+z' } →
   Y.cell? ⟨ab,11,none⟩=some (.int .i64 ((a.frames:Nat):Int))∧Y.frozen? ⟨ab,11,none⟩=false∧(Y.setCell ⟨ab,11,none⟩ (.int .i64 ((a.frames:Int)+1))).cell? ⟨ab,0,none⟩=some (.int .i32 1)∧(Y.setCell ⟨ab,11,none⟩ (.int .i64 ((a.frames:Int)+1))).frozen? ⟨ab,0,none⟩=false∧frP w ab fns c a k z' (.returned .nilIface) ((Y.setCell ⟨ab,11,none⟩ (.int .i64 ((a.frames:Int)+1))).setCell ⟨ab,0,none⟩ (.int .i32 0))):=fun X Y n F hX hM hY hA=>by
  have e3:((a.frames:Int)+1)=((a.frames+1:Nat):Int):=by omega
  rw[e3]
  have hA2:AppAt (Y.setCell ⟨ab,11,none⟩ (.int .i64 ((a.frames+1:Nat):Int))) ab fns 1 c { a with handled:=false,shown:=some (numA n (bareO a.shown) a.greatest).1,greatest:=(numA n (bareO a.shown) a.greatest).2,lazies:=a.lazies+z',frames:=a.frames+1 }:=hA.upd 11 _ rfl rfl rfl rfl rfl
  have hz:ab≤(W1.setCell ⟨ab,5,none⟩ (.bool false)).heap.size:=by have:=h2.lt;omega
  refine⟨hA.cell 11,hA.frozen 11,hA2.cell 0,hA2.frozen 0,n,F,rfl,hM,?_,hA2.lock 0⟩
  exact (((b2.trans (hX.mono hz)).trans hY).trans (hA.set 11 _).2.2).trans (hA2.set 0 _).2.2
 have fi:((a.frames:Nat):Int)≤900000000:=by omega
 obtain⟨sv,hsv⟩:∃sv,sv=valN a.shown:=⟨_,rfl⟩
 have hsn:sv=.nilIface∨(∃tn bn,sv=.iface tn (.pointer (some ⟨bn,0,none⟩)))∧a.handled=true:=by
  cases hs:a.shown with
  | none=>rw[hs] at hsv;exact Or.inl hsv
  | some n =>
   rw[hs] at hsv hd
   obtain⟨tn,bn,hv⟩:=n.val_iface
   exact Or.inr ⟨⟨tn,bn,hsv.trans hv⟩,by rcases hd with hd | hd;cases hd;exact hd⟩
 rw[←hsv] at c6
 clear h h1 h2 b1 b2 e1 e2 hd hsv hW1 c0 f0
 rcases hsn with rfl | ⟨⟨tn,bn,rfl⟩,hh⟩
 ·have CS:=CSX.out _ (Below.refl _ _)
  clear CSX
  go_enter_defers func16,ntmps16
  go_wp2_with (first
   |(go_at_call 32;refine CLock.mono ?_;clear CLock;rintro e w1 ⟨rfl,rfl⟩)
   |(go_at_call 34;refine CS.mono ?_;rintro e w2 ⟨n,F,rfl,hM,hY,hA⟩;obtain⟨d11,g11,d0,g0,hfin⟩:=FIN.out _ _ n F (Below.refl _ _) hM hY hA;have FI:Hid _:=hfin;clear hfin hA hY hM CS))
  refine leaves_cons (f:=33) (args:=#[.pointer (some ⟨ab,0,none⟩)]) (by simp) (by simp[go_sem]) ?_
  refine (unlock_deferred muLib ⟨ab,0,none⟩ .returning _ d0 g0).mono ?_
  rintro e u' w3 ⟨rfl,rfl,rfl⟩
  obtain⟨n1,F1,_,m1,m2,m3⟩:=FI.out
  exact⟨_,results_tmp rfl _ _ _,n1,F1,rfl,m1,m2,m3⟩
 ·rw[hh] at c5
  have CS:=CSX.out _ (Below.refl _ _)
  clear CSX
  go_enter_defers func16,ntmps16
  go_wp2_with (first
   |(go_at_call 32;refine CLock.mono ?_;clear CLock;rintro e w1 ⟨rfl,rfl⟩)
   |(go_at_call 34;refine CS.mono ?_;rintro e w2 ⟨n,F,rfl,hM,hY,hA⟩;obtain⟨d11,g11,d0,g0,hfin⟩:=FIN.out _ _ n F (Below.refl _ _) hM hY hA;have FI:Hid _:=hfin;clear hfin hA hY hM CS))
  refine leaves_cons (f:=33) (args:=#[.pointer (some ⟨ab,0,none⟩)]) (by simp) (by simp[go_sem]) ?_
  refine (unlock_deferred muLib ⟨ab,0,none⟩ .returning _ d0 g0).mono ?_
  rintro e u' w3 ⟨rfl,rfl,rfl⟩
  obtain⟨n1,F1,_,m1,m2,m3⟩:=FI.out
  exact⟨_,results_tmp rfl _ _ _,n1,F1,rfl,m1,m2,m3⟩
end Go.Proofs.YtifhgjpglicjbaaGreatDoor
namespace Go.Proofs.YtifhgjpglicjbaaGreatDoor
open Go.Proofs.Tryz
open Go.RowKit
attribute [local go_sem ↓] Go.wp_at_zero Go.wp_at_succ
structure Sents (w:World)(E:Nat→Addr):Prop where
 er:Errs w E
 e8:w.cell? ⟨0,0,none⟩=some (errVal (E 8))
 e9:w.cell? ⟨2,0,none⟩=some (errVal (E 9))
 et:w.cell? ⟨9,0,none⟩=some (.iface 135 (.agg #[.pointer (some ⟨15,28,none⟩)]))
 row:∀i,1≤i→i≤9→∃c t,w.heap[(E i).block]?=some (.cells c t (0,0))
 ne:∀i j,1≤i→i≤9→1≤j→j≤9→i≠j→E i≠E j
theorem Sents.below {w w':World}{E:Nat→Addr}(h:Sents w E)(hb:Below w.heap.size w w'):Sents w' E :=
 ⟨h.er.below hb,Below.cellv hb h.e8,Below.cellv hb h.e9,Below.cellv hb h.et,fun i h1 h2=>by
  obtain⟨c,t,hc⟩:=h.row i h1 h2
  exact⟨c,t,by rw[hb.block _ (block_lt hc)];exact hc⟩,h.ne⟩
theorem is_no {w:World}{E:Nat→Addr}(h:Sents w E)(c x p:Nat)(h1:1≤c)(h2:c≤9)(h3:1≤x)(h4:x≤9)(hne:c≠x):
  Calls prog 12 #[wrongV p (E c),errVal (E x)] w fun e w'=>e=.returned (.bool false)∧Below w.heap.size w w':=by
 obtain⟨c1,t1,r1⟩:=h.row c h1 h2
 obtain⟨c2,t2,r2⟩:=h.row x h3 h4
 exact is_wrong_other p (E c) (E x) c1 c2 t1 t2 w (h.ne c x h1 h2 h3 h4 hne) r1 r2
end Go.Proofs.YtifhgjpglicjbaaGreatDoor
