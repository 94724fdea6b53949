/-
  What of the App Bubbled needs besides.
-/
import Derived.Test.YtifhgjpglicjbaaGreatDoorLkB
import Derived.Test.YtifhgjpglicjbaaGreatDoorFtF
import Derived.Test.YtifhgjpglicjbaaGreatDoorRdA
import Derived.Test.YtifhgjpglicjbaaGreatDoorFsS
import Derived.Test.YtifhgjpglicjbaaGreatDoorRdB
set_option maxHeartbeats 1000000
set_option maxRecDepth 8000
namespace Go.Proofs.YtifhgjpglicjbaaGreatDoor
open Go.Proofs.Tryz
end Go.Proofs.YtifhgjpglicjbaaGreatDoor
namespace Go.Proofs.YtifhgjpglicjbaaGreatDoor
open Go.Proofs.Tryz
open Go.RowKit Go.Lib Go.MuLone
attribute [local go_sem ↓] Go.wp_at_zero Go.wp_at_succ
theorem Model_ok {w:World}{ab:Nat}{fns:List Fn}{c:AC}{a:PA}(h:AppAt w ab fns 0 c a):
  Calls prog 22 #[.pointer (some ⟨ab,0,none⟩)] w fun e w'=>e=.returned (.string ⟨(wrV a.model).toArray⟩)∧Below ab w w'∧AppAt w' ab fns 0 c a:=by
 have h1:=h.lock 1
 have b1:Below ab w (w.setCell ⟨ab,0,none⟩ (.int .i32 1)):=(h.set 0 _).2.2
 have c0:w.cell? ⟨ab,0,none⟩=some (.int .i32 0):=h.cell 0
 have f0:=h.frozen 0
 have hlt:=h.lt
 obtain⟨W1,hW1⟩:∃W1,W1=w.setCell ⟨ab,0,none⟩ (.int .i32 1):=⟨_,rfl⟩
 rw[←hW1] at h1 b1
 have CLock:=(lock_free muLib ⟨ab,0,none⟩ _ c0 f0).mono (fun e w' (hp:_∧_)=>(⟨hp.1,hp.2.trans hW1.symm⟩:e=.returned (.tuple #[])∧w'=W1))
 have c3:W1.cell? ⟨ab,3,none⟩=some c.xm:=h1.cell 3
 have hf:=h.st.fm
 have hf2:wtV a.model≤600:=hf.2
 have CW:=Write_any (NQ c.qv a.foe) a.model c.xm W1 h1.st.model hf.1 (by omega) h1.st.num.p10
 have FIN:Hid (∀X,Below W1.heap.size W1 X→X.cell? ⟨ab,0,none⟩=some (.int .i32 1)∧X.frozen? ⟨ab,0,none⟩=false∧Below ab w (X.setCell ⟨ab,0,none⟩ (.int .i32 0))∧AppAt (X.setCell ⟨ab,0,none⟩ (.int .i32 0)) ab fns 0 c a):=fun X hX=>by
  have hXa:=h1.below hX
  refine⟨hXa.cell 0,hXa.frozen 0,?_,hXa.lock 0⟩
  have hz:ab≤W1.heap.size:=by have:=h1.lt;omega
  exact (b1.trans (hX.mono hz)).trans (hXa.set 0 _).2.2
 obtain⟨tm,ym,hxm⟩:=h.st.model.iface
 rw[hxm] at CW c3
 generalize wrV a.model=R at *
 clear h h1 hxm hW1 hf hf2 b1
 go_enter_defers func22,ntmps22
 go_wp2_with (first
  |(go_at_call 32;refine CLock.mono ?_;clear CLock;rintro e w1 ⟨rfl,rfl⟩)
  |(go_at_call 29;refine CW.mono ?_;rintro e w2 ⟨rfl,hb2⟩;obtain⟨d0,g0,q1,q2⟩:=FIN.out w2 hb2))
 refine leaves_cons (f:=33) (args:=#[.pointer (some ⟨ab,0,none⟩)]) (by simp) (by simp[go_sem]) ?_
 refine (unlock_deferred muLib ⟨ab,0,none⟩ .returning _ d0 g0).mono ?_
 rintro e u' w3 ⟨rfl,rfl,rfl⟩
 exact⟨_,results_tmp rfl _ _ _,rfl,q1,q2⟩
theorem send_ok {fns:List Fn}{w:World}{ab:Nat}{lk:Int}{c:AC}{a:PA}(h:AppAt w ab fns lk c a)(s:ByteArray)(v:PV)(hs:s.size≤1000000)(hr:readV s.data.toList=some v)(hdr:a.dropped≤900000000):
  Calls prog 37 #[.pointer (some ⟨ab,0,none⟩),.string s] w fun e w'=>∃c',e=.returned .nilIface∧Below ab w w'∧AppAt w' ab fns lk c' (layA a [v]):=by
 have hm:=h.st.hm
 have hlt:=h.lt
 have hD:=NQ.new h.st
 obtain⟨_,ho,hw⟩:=readV_some hr
 have CR:Calls prog 53 #[.string s] w fun e w1=>∃tx yx,e=.returned (.tuple #[.iface tx yx,.nilIface])∧Calls prog 45 #[.pointer (some ⟨ab,0,none⟩),.slice (some ⟨w1.heap.size,0,none⟩) 1 1] (w1.alloc (.cells #[.iface tx yx] 74)) fun e w'=>∃(z:Int) (c':AC),e=.returned (.int .i64 z)∧Below ab w w'∧AppAt w' ab fns lk c' (layA a [v]):=by
  refine (Read_any s w (by omega) h.st.num (by omega)).mono fun e w1 hp=>?_
  rw[hr] at hp
  obtain⟨hb,⟨v',x,hv1,he,hvl⟩ | ⟨hv1,_⟩⟩:=hp
  ·cases hv1
   obtain⟨tx,yx,rfl⟩:=hvl.iface
   refine⟨tx,yx,he,?_⟩
   have ba:=below1 w1 (.cells #[.iface tx yx] 74)
   have bb:=hb.trans (ba.mono hb.size)
   have hX:=h.below bb
   have hbs:=hb.size
   have hv2:VL (w1.alloc (.cells #[.iface tx yx] 74)) (NQ c.qv a.foe) v (.iface tx yx):=(hvl.weaken fun k hk=>hD k (by omega)).below ba
   refine (lay_ok hX [v] (some ⟨w1.heap.size,0,none⟩) 1 [.iface tx yx] ⟨rfl,Or.inr ⟨w1.heap.size,0,1,#[.iface tx yx],rfl,hD _ hbs,heap_alloc_new _ _,Nat.le_refl _,by unfold maxLen;omega,by simp,by simp⟩⟩ (VLs.one hv2) (fun m hm=>by rw[List.mem_singleton] at hm;rw[hm];exact⟨ho,hw⟩) (by simp) hdr).mono fun e w' ⟨c',h1,h2,h3⟩=>⟨_,c',h1,(bb.mono (by omega)).trans h2,h3⟩
  ·cases hv1
 generalize layA a [v]=A' at *
 clear h hr ho hw hD
 go_enter func37,ntmps37
 go_wp2_with fail
 refine CR.mono ?_
 rintro e w1 ⟨tx,yx,rfl,CL⟩
 clear CR
 go_wp2_with fail
 refine CL.mono ?_
 rintro e w2 ⟨z,c',rfl,hb2,hA2⟩
 clear CL
 go_wp2_with fail
 go_ret
 exact⟨c',rfl,hb2,hA2⟩
theorem Send_ok {fns:List Fn}{w:World}{ab:Nat}{c:AC}{a:PA}(h:AppAt w ab fns 0 c a)(s:ByteArray)(v:PV)(hs:s.size≤1000000)(hr:readV s.data.toList=some v)(hdr:a.dropped≤900000000):
  Calls prog 19 #[.pointer (some ⟨ab,0,none⟩),.string s] w fun e w'=>∃c',e=.returned .nilIface∧Below ab w w'∧AppAt w' ab fns 0 c' (layA a [v]):=by
 have h1:=h.lock 1
 have b1:Below ab w (w.setCell ⟨ab,0,none⟩ (.int .i32 1)):=(h.set 0 _).2.2
 have c0:w.cell? ⟨ab,0,none⟩=some (.int .i32 0):=h.cell 0
 have f0:=h.frozen 0
 have hlt:=h.lt
 obtain⟨W1,hW1⟩:∃W1,W1=w.setCell ⟨ab,0,none⟩ (.int .i32 1):=⟨_,rfl⟩
 rw[←hW1] at h1 b1
 have CLock:=(lock_free muLib ⟨ab,0,none⟩ _ c0 f0).mono (fun e w' (hp:_∧_)=>(⟨hp.1,hp.2.trans hW1.symm⟩:e=.returned (.tuple #[])∧w'=W1))
 have CS:=send_ok h1 s v hs hr hdr
 have FIN:Hid (∀X c',Below ab W1 X→AppAt X ab fns 1 c' (layA a [v])→X.cell? ⟨ab,0,none⟩=some (.int .i32 1)∧X.frozen? ⟨ab,0,none⟩=false∧Below ab w (X.setCell ⟨ab,0,none⟩ (.int .i32 0))∧AppAt (X.setCell ⟨ab,0,none⟩ (.int .i32 0)) ab fns 0 c' (layA a [v])):=fun X c' hX hA=>⟨hA.cell 0,hA.frozen 0,(b1.trans hX).trans (hA.set 0 _).2.2,hA.lock 0⟩
 generalize layA a [v]=A' at *
 clear h h1 hW1 b1 hr
 go_enter_defers func19,ntmps19
 go_wp2_with (go_at_call 32;refine CLock.mono ?_;clear CLock;rintro e w1 ⟨rfl,rfl⟩)
 refine CS.mono ?_
 rintro e w2 ⟨c',rfl,hb2,hA2⟩
 obtain⟨d0,g0,q1,q2⟩:=FIN.out w2 c' hb2 hA2
 clear CS FIN hA2
 go_wp2_with fail
 refine leaves_cons (f:=33) (args:=#[.pointer (some ⟨ab,0,none⟩)]) (by simp) (by simp[go_sem]) ?_
 refine (unlock_deferred muLib ⟨ab,0,none⟩ .returning _ d0 g0).mono ?_
 rintro e u' w3 ⟨rfl,rfl,rfl⟩
 exact⟨_,results_tmp rfl _ _ _,c',rfl,q1,q2⟩
end Go.Proofs.YtifhgjpglicjbaaGreatDoor
namespace Go.Proofs.YtifhgjpglicjbaaGreatDoor
open Go.Proofs.Tryz
open Go.RowKit Go.Lib
theorem Tryz.infoIntO:(prog.info? 3).map (fun i=>(i.zero,i.size,i.bytes))=some (some (.int .i64 0),1,8):=by kernel_rfl
def intV (k:Nat):Value:=.int .i64 ((k:Nat):Int)
theorem ty_eq {o:Option Obj}{c c':Array Value}{t t':TypeId}(h:o=some (.cells c t))(h':o=some (.cells c' t')):t=t':=by rw[h] at h';cases h';rfl
def IsRow (w:World)(q:Nat):Prop:=∃cur,w.heap[q]?=some (.cells cur 3)∨w.heap[q]?=some (.cells cur 9)
def RowsKeep (w w':World):Prop:=∀q,IsRow w q→w'.heap[q]?=w.heap[q]?
theorem RowsKeep.trans {a b c:World}(h:RowsKeep a b)(k:RowsKeep b c):RowsKeep a c:=fun q ⟨cur,hq⟩=>by
 have e1:=h q ⟨cur,hq⟩
 rw[k q ⟨cur,by rw[e1];exact hq⟩,e1]
theorem RowsKeep.of_below {w w':World}(h:Below w.heap.size w w'):RowsKeep w w':=fun q ⟨cur,hq⟩=>h.block q (by rcases hq with hq | hq<;>exact block_lt hq)
def PA.fr (a:PA)(w:World)(ab:Nat):PA:={ a with S:=fun q=>q<ab∨IsRow w q,was:=fun q=>w.heap[q]? }
theorem AppAt.frame {w:World}{ab:Nat}{fns:List Fn}{lk:Int}{c:AC}{a:PA}(h:AppAt w ab fns lk c a)(hN:∀n,a.shown=some n→∀b∈blocksA n,¬ b<ab):AppAt w ab fns lk c (a.fr w ab):=by
 have hs:=h.st
 have hlt:=h.lt
 refine⟨h.blk,⟨hs.prog,hs.model,hs.queue,hs.shown,hs.flt,hs.num,hs.hm,hs.fm,hs.fq,hs.ok,hs.nm,hs.hq,⟨fun q hq=>⟨?_,rfl⟩,?_,fun n hn b hb hq=>?_,fun q hq hS=>?_,hs.out.fo⟩⟩⟩
 ·rcases hq with hq | ⟨cur,hq⟩
  ·omega
  ·rcases hq with hq | hq<;>exact block_lt hq
 ·rintro (hq | ⟨cur,hq⟩)
  ·omega
  ·rcases hq with hq | hq<;>exact absurd (ty_eq h.blk hq) (by decide)
 ·rcases hq with hq | ⟨cur,hq⟩
  ·exact hN n hn b hb hq
  ·have hsh:=hs.shown
   rw[show a.shown=some n from hn] at hsh
   obtain⟨c1,t,h4,h5⟩:=AnD.ty (n:=n) hsh b hb
   rw[h4] at hq
   rcases hq with hq | hq<;>(cases hq;revert h5;decide)
 ·obtain⟨cs,h1,_⟩:=hs.queue
  have:=(h1.lt q hq).1
  obtain⟨cur2,h2⟩:=owns_block h1 hq
  rcases hS with hS | ⟨cur,hS⟩
  ·omega
  ·rcases hS with hS | hS<;>exact absurd (ty_eq h2 hS) (by decide)
theorem AppAt.kept {w w':World}{ab:Nat}{fns:List Fn}{lk:Int}{c:AC}{a a':PA}(h:AppAt w' ab fns lk c a')(e1:a'.S=(a.fr w ab).S)(e2:a'.was=(a.fr w ab).was):RowsKeep w w'∧∀n,a'.shown=some n→∀b∈blocksA n,¬ b<ab:=by
 refine⟨fun q hq=>?_,fun n hn b hb hl=>?_⟩
 ·have:=(h.st.out.keep q (by rw[e1];exact Or.inr hq)).2
  rw[this,e2]
  rfl
 ·exact h.st.out.sN n hn b hb (by rw[e1];exact Or.inl hl)
theorem cell_of {w:World}{b:Nat}{c:Array Value}{t:TypeId}(h:w.heap[b]?=some (.cells c t))(j:Nat):w.cell? ⟨b,j,none⟩=c[j]?:=by unfold World.cell?;rw[h];rfl
theorem frozen_of {w:World}{b:Nat}{c:Array Value}{t:TypeId}(h:w.heap[b]?=some (.cells c t))(j:Nat):w.frozen? ⟨b,j,none⟩=false:=by unfold World.frozen?;rw[h];rfl
theorem owns_cell {w:World}{base:Nat}{v:Value}{l:List Nat}(h:w.ownsRow base 3 1 v l.length (l.map intV)){k:Nat}(hk:k<l.length):∃g vcap,v=.slice (some ⟨g,0,none⟩) l.length vcap∧l.length≤vcap∧vcap≤9223372036854775807∧w.cell? ⟨g,k,none⟩=some (.int .i64 ((l[k]:Nat):Int))∧∃cur,w.heap[g]?=some (.cells cur 3):=by
 rcases h.2 with ⟨_,h0⟩ | ⟨g,cap',cur,hv,hg,hh,hc',hm,hz,ht⟩
 ·omega
 ·refine⟨g,cap',hv,hc',by unfold maxLen at hm;omega,?_,cur,hh⟩
  have e1:=congrArg (·[k]?) ht
  simp only[Nat.mul_one] at e1
  rw[List.getElem?_take_of_lt (by omega),List.getElem?_map,List.getElem?_eq_getElem hk] at e1
  rw[cell_of hh]
  simpa[intV] using e1
end Go.Proofs.YtifhgjpglicjbaaGreatDoor
namespace Go.Proofs.YtifhgjpglicjbaaGreatDoor
open Go.Proofs.Tryz
open Go.RowKit Go.Lib Go.MuLone
attribute [local go_sem ↓] Go.wp_at_zero Go.wp_at_succ
def enP (w:World)(ab:Nat)(fns:List Fn)(c:AC)(a:PA)(e:Ending)(w':World):Prop :=
 ∃j:Nat,e=.returned (.tuple #[.int .i64 0,.iface 153 (.agg #[.int .i64 ((j:Nat):Int)])])∧Below ab w w'∧AppAt w' ab fns 0 c a
theorem Event_no {fns:List Fn}{w:World}{ab:Nat}{c:AC}{a:PA}(h:AppAt w ab fns 0 c a){n:An}(hn:a.shown=some n)(path:List Nat)(pv:Value)(hp:SegAt w TT 3 1 pv path.length (pathV path))(hpl:path.length≤1000000)(hpi:∀i∈path,i≤1000000000)(evB:ByteArray)(hfs:wayA (topW n) path=none):
  Calls prog 23 #[.pointer (some ⟨ab,0,none⟩),pv,.string evB] w (enP w ab fns c a):=by
 have h1:=h.lock 1
 have b1:Below ab w (w.setCell ⟨ab,0,none⟩ (.int .i32 1)):=(h.set 0 _).2.2
 have hp1:SegAt (w.setCell ⟨ab,0,none⟩ (.int .i32 1)) TT 3 1 pv path.length (pathV path):=hp.tyKeep (TyKeep.setCell h.blk (by decide) _)
 have c0:w.cell? ⟨ab,0,none⟩=some (.int .i32 0):=h.cell 0
 have f0:=h.frozen 0
 obtain⟨W1,hW1⟩:∃W1,W1=w.setCell ⟨ab,0,none⟩ (.int .i32 1):=⟨_,rfl⟩
 rw[←hW1] at h1 b1 hp1
 have CLock:=(lock_free muLib ⟨ab,0,none⟩ _ c0 f0).mono (fun e w' (hp:_∧_)=>(⟨hp.1,hp.2.trans hW1.symm⟩:e=.returned (.tuple #[])∧w'=W1))
 have c6:W1.cell? ⟨ab,6,none⟩=some n.val:=by
  rw[h1.cell 6]
  show some (valN a.shown)=_
  rw[hn]
  rfl
 have hs:=h1.st.shown
 rw[hn] at hs
 replace hs:AnD W1 (NQ c.qv a.foe) n:=hs
 have hz:=(h.st.ok n hn).2
 have hlt:=h1.lt
 have CW:Calls prog 44 #[n.val,pv] W1 fun e w'=>∃j:Nat,e=.returned (.tuple #[.slice none 0 0,.iface 153 (.agg #[.int .i64 ((j:Nat):Int)])])∧Below W1.heap.size W1 w':=by
  refine (Way_any (NQ c.qv a.foe) n path pv W1 hs (by omega) hp1 hpl hpi).mono fun e w' hq=>?_
  obtain⟨hb,⟨fs',ad,cap,cs,g1,_⟩ | ⟨_,j,he⟩⟩:=hq
  ·rw[hfs] at g1
   cases g1
  ·exact⟨j,he,hb⟩
 have FIN:Hid (∀X (j:Nat),Below W1.heap.size W1 X→X.cell? ⟨ab,0,none⟩=some (.int .i32 1)∧X.frozen? ⟨ab,0,none⟩=false∧enP w ab fns c a (.returned (.tuple #[.int .i64 0,.iface 153 (.agg #[.int .i64 ((j:Nat):Int)])])) (X.setCell ⟨ab,0,none⟩ (.int .i32 0))):=fun X j hX=>by
  have hXa:=h1.below hX
  exact⟨hXa.cell 0,hXa.frozen 0,j,rfl,(b1.trans (hX.mono (by omega))).trans (hXa.set 0 _).2.2,hXa.lock 0⟩
 obtain⟨pad,pcap,rfl⟩:=hp.slice
 obtain⟨tn,bn,hv⟩:=n.val_iface
 rw[hv] at CW c6
 generalize enP w ab fns c a=POST at *
 clear h h1 hs hn hv hp hp1 hfs hW1 b1 hpi
 go_enter_defers func23,ntmps23
 go_wp2_with (go_at_call 32;refine CLock.mono ?_;clear CLock;rintro e w1 ⟨rfl,rfl⟩)
 refine CW.mono ?_
 rintro e w2 ⟨j,rfl,hb2⟩
 obtain⟨d0,g0,FI⟩:=FIN.out _ j hb2
 have FI2:Hid _:=FI
 clear FI CW FIN c6 hb2
 go_wp2_with fail
 refine leaves_cons (f:=33) (args:=#[.pointer (some ⟨ab,0,none⟩)]) (by simp) (by simp[go_sem]) ?_
 refine (unlock_deferred muLib ⟨ab,0,none⟩ .returning _ d0 g0).mono ?_
 rintro e u' w3 ⟨rfl,rfl,rfl⟩
 refine⟨_,results_tmp2 rfl _ _ _,?_⟩
 have hfin:=FI2.out
 simpa using hfin
def cntV (a:PA):Value:=.agg #[.int .i64 ((a.queue.length:Nat):Int),.int .i64 ((a.faults:Nat):Int),.int .i64 ((a.dropped:Nat):Int),.int .i64 ((a.frames:Nat):Int),.int .i64 ((a.lazies:Nat):Int)]
theorem Counts_ok {fns:List Fn}{w:World}{ab:Nat}{c:AC}{a:PA}(h0:AppAt w ab fns 0 c a):
  Calls prog 24 #[.pointer (some ⟨ab,0,none⟩)] w fun e w'=>e=.returned (cntV a)∧Below ab w w'∧AppAt w' ab fns 0 c a:=by
 have hlt0:=h0.lt
 have bA:=below1 w (.cells #[.int .i64 0,.int .i64 0,.int .i64 0,.int .i64 0,.int .i64 0] 51)
 have q0:(w.alloc (.cells #[.int .i64 0,.int .i64 0,.int .i64 0,.int .i64 0,.int .i64 0] 51)).heap[w.heap.size]?=some (.cells #[.int .i64 0,.int .i64 0,.int .i64 0,.int .i64 0,.int .i64 0] 51):=heap_alloc_new _ _
 obtain⟨W0,hW0⟩:∃W0,W0=w.alloc (.cells #[.int .i64 0,.int .i64 0,.int .i64 0,.int .i64 0,.int .i64 0] 51):=⟨_,rfl⟩
 rw[←hW0] at bA q0
 have h:=h0.below bA
 have h1:=h.lock 1
 have b1:Below ab W0 (W0.setCell ⟨ab,0,none⟩ (.int .i32 1)):=(h.set 0 _).2.2
 have q1:(W0.setCell ⟨ab,0,none⟩ (.int .i32 1)).heap[w.heap.size]?=_:=(Below.heap_setCell W0 ⟨ab,0,none⟩ (.int .i32 1) w.heap.size (by show w.heap.size≠ab;omega)).trans q0
 have c0:W0.cell? ⟨ab,0,none⟩=some (.int .i32 0):=h.cell 0
 have f0:=h.frozen 0
 obtain⟨W1,hW1⟩:∃W1,W1=W0.setCell ⟨ab,0,none⟩ (.int .i32 1):=⟨_,rfl⟩
 rw[←hW1] at h1 b1 q1
 have CLock:=(lock_free muLib ⟨ab,0,none⟩ _ c0 f0).mono (fun e w' (hp:_∧_)=>(⟨hp.1,hp.2.trans hW1.symm⟩:e=.returned (.tuple #[])∧w'=W1))
 have c4:W1.cell? ⟨ab,4,none⟩=some c.qv:=h1.cell 4
 have c8:W1.cell? ⟨ab,8,none⟩=some (.int .i64 c.wt):=h1.cell 8
 have c9:W1.cell? ⟨ab,9,none⟩=some (.int .i64 ((a.faults:Nat):Int)):=h1.cell 9
 have c10:W1.cell? ⟨ab,10,none⟩=some (.int .i64 ((a.dropped:Nat):Int)):=h1.cell 10
 have c11:W1.cell? ⟨ab,11,none⟩=some (.int .i64 ((a.frames:Nat):Int)):=h1.cell 11
 have c12:W1.cell? ⟨ab,12,none⟩=some (.int .i64 ((a.lazies:Nat):Int)):=h1.cell 12
 obtain⟨qa,qc,hqv⟩:∃qa qc,c.qv=.slice qa a.queue.length qc:=by
  obtain⟨cs,h2,_⟩:=h0.st.queue
  exact owns_slice h2
 rw[hqv] at c4
 have hql:=h0.st.hq
 have hqi:((a.queue.length:Nat):Int)≤12:=by omega
 obtain⟨X,hX⟩:∃X,X=W1.alloc (.cells #[.int .i64 c.wt,.int .i64 ((a.faults:Nat):Int),.int .i64 ((a.dropped:Nat):Int),.int .i64 ((a.frames:Nat):Int),.int .i64 ((a.lazies:Nat):Int)] 51):=⟨_,rfl⟩
 have bX:Below W1.heap.size W1 X:=by rw[hX];exact below1 _ _
 have hWs:w.heap.size<W1.heap.size:=block_lt q1
 have x4:X.cell? ⟨ab,4,none⟩=some (.slice qa a.queue.length qc):=Below.cellv bX c4
 have qX:X.heap[W1.heap.size]?=some (.cells #[.int .i64 c.wt,.int .i64 ((a.faults:Nat):Int),.int .i64 ((a.dropped:Nat):Int),.int .i64 ((a.frames:Nat):Int),.int .i64 ((a.lazies:Nat):Int)] 51):=by rw[hX];exact heap_alloc_new _ _
 have x0:X.cell? ⟨W1.heap.size,0,none⟩=some (.int .i64 c.wt):=by unfold World.cell?;rw[qX];rfl
 have xf:X.frozen? ⟨W1.heap.size,0,none⟩=false:=by unfold World.frozen?;rw[qX];rfl
 obtain⟨Y,hY⟩:∃Y,Y=X.setCell ⟨W1.heap.size,0,none⟩ (.int .i64 ((a.queue.length:Nat):Int)):=⟨_,rfl⟩
 have bY:Below W1.heap.size W1 Y:=by rw[hY];exact bX.setCell (p:=⟨W1.heap.size,0,none⟩) (Nat.le_refl _) _
 have qY:Y.heap[W1.heap.size]?=some (.cells #[.int .i64 ((a.queue.length:Nat):Int),.int .i64 ((a.faults:Nat):Int),.int .i64 ((a.dropped:Nat):Int),.int .i64 ((a.frames:Nat):Int),.int .i64 ((a.lazies:Nat):Int)] 51):=by rw[hY];exact set_block qX _
 have y0:Y.cell? ⟨W1.heap.size,0,none⟩=some (.int .i64 ((a.queue.length:Nat):Int)):=by unfold World.cell?;rw[qY];rfl
 have y1:Y.cell? ⟨W1.heap.size,1,none⟩=some (.int .i64 ((a.faults:Nat):Int)):=by unfold World.cell?;rw[qY];rfl
 have y2:Y.cell? ⟨W1.heap.size,2,none⟩=some (.int .i64 ((a.dropped:Nat):Int)):=by unfold World.cell?;rw[qY];rfl
 have y3:Y.cell? ⟨W1.heap.size,3,none⟩=some (.int .i64 ((a.frames:Nat):Int)):=by unfold World.cell?;rw[qY];rfl
 have y4:Y.cell? ⟨W1.heap.size,4,none⟩=some (.int .i64 ((a.lazies:Nat):Int)):=by unfold World.cell?;rw[qY];rfl
 have qZ:Y.heap[w.heap.size]?=_:=(bY.block w.heap.size hWs).trans q1
 have r0:Y.cell? ⟨w.heap.size,0,none⟩=some (.int .i64 0):=by unfold World.cell?;rw[qZ];rfl
 have r1:Y.cell? ⟨w.heap.size,1,none⟩=some (.int .i64 0):=by unfold World.cell?;rw[qZ];rfl
 have r2:Y.cell? ⟨w.heap.size,2,none⟩=some (.int .i64 0):=by unfold World.cell?;rw[qZ];rfl
 have r3:Y.cell? ⟨w.heap.size,3,none⟩=some (.int .i64 0):=by unfold World.cell?;rw[qZ];rfl
 have r4:Y.cell? ⟨w.heap.size,4,none⟩=some (.int .i64 0):=by unfold World.cell?;rw[qZ];rfl
 have rf:=fun j=>(show Y.frozen? ⟨w.heap.size,j,none⟩=false by unfold World.frozen?;rw[qZ];rfl)
 obtain⟨Z,hZ⟩:∃Z,Z=((((Y.setCell ⟨w.heap.size,0,none⟩ (.int .i64 ((a.queue.length:Nat):Int))).setCell ⟨w.heap.size,1,none⟩ (.int .i64 ((a.faults:Nat):Int))).setCell ⟨w.heap.size,2,none⟩ (.int .i64 ((a.dropped:Nat):Int))).setCell ⟨w.heap.size,3,none⟩ (.int .i64 ((a.frames:Nat):Int))).setCell ⟨w.heap.size,4,none⟩ (.int .i64 ((a.lazies:Nat):Int)):=⟨_,rfl⟩
 have bZ:Below w.heap.size Y Z:=by
  rw[hZ]
  exact (((((Below.refl _ _).setCell (p:=⟨w.heap.size,0,none⟩) (Nat.le_refl _) _).setCell (p:=⟨w.heap.size,1,none⟩) (Nat.le_refl _) _).setCell (p:=⟨w.heap.size,2,none⟩) (Nat.le_refl _) _).setCell (p:=⟨w.heap.size,3,none⟩) (Nat.le_refl _) _).setCell (p:=⟨w.heap.size,4,none⟩) (Nat.le_refl _) _
 have kZ:Z.heap[w.heap.size]?=some (.cells #[.int .i64 ((a.queue.length:Nat):Int),.int .i64 ((a.faults:Nat):Int),.int .i64 ((a.dropped:Nat):Int),.int .i64 ((a.frames:Nat):Int),.int .i64 ((a.lazies:Nat):Int)] 51):=by
  rw[hZ]
  exact set_block (set_block (set_block (set_block (set_block qZ _) _) _) _) _
 have hV:=h0.lock 1
 have bV:=(h0.set 0 (.int .i32 1)).2.2
 have hzV:(w.setCell ⟨ab,0,none⟩ (.int .i32 1)).heap.size=w.heap.size:=by simp[World.setCell]
 have bwZ:Below ab w Z:=((bA.mono (by omega)).trans b1).trans ((bY.mono (by omega)).trans (bZ.mono (by omega)))
 have bVZ:Below (w.setCell ⟨ab,0,none⟩ (.int .i32 1)).heap.size (w.setCell ⟨ab,0,none⟩ (.int .i32 1)) Z:=by
  refine⟨bwZ.os.trans bV.os.symm,bwZ.tape.trans bV.tape.symm,bwZ.output.trans bV.output.symm,by rw[hzV];exact bwZ.size,fun q hq=>?_⟩
  rw[hzV] at hq
  rw[bZ.block q hq,bY.block q (by omega)]
  by_cases hqa:q=ab
  ·subst hqa
   exact h1.blk.trans hV.blk.symm
  ·rw[hW1,Below.heap_setCell W0 ⟨ab,0,none⟩ _ q hqa,Below.heap_setCell w ⟨ab,0,none⟩ _ q hqa]
   exact bA.block q hq
 have hAZ:=hV.below bVZ
 have z0:Z.cell? ⟨ab,0,none⟩=some (.int .i32 1):=hAZ.cell 0
 have zf:=hAZ.frozen 0
 have kU:(Z.setCell ⟨ab,0,none⟩ (.int .i32 0)).heap[w.heap.size]?=_:=(Below.heap_setCell Z ⟨ab,0,none⟩ (.int .i32 0) w.heap.size (by show w.heap.size≠ab;omega)).trans kZ
 have u0:(Z.setCell ⟨ab,0,none⟩ (.int .i32 0)).cell? ⟨w.heap.size,0,none⟩=some (.int .i64 ((a.queue.length:Nat):Int)):=by unfold World.cell?;rw[kU];rfl
 have u1:(Z.setCell ⟨ab,0,none⟩ (.int .i32 0)).cell? ⟨w.heap.size,1,none⟩=some (.int .i64 ((a.faults:Nat):Int)):=by unfold World.cell?;rw[kU];rfl
 have u2:(Z.setCell ⟨ab,0,none⟩ (.int .i32 0)).cell? ⟨w.heap.size,2,none⟩=some (.int .i64 ((a.dropped:Nat):Int)):=by unfold World.cell?;rw[kU];rfl
 have u3:(Z.setCell ⟨ab,0,none⟩ (.int .i32 0)).cell? ⟨w.heap.size,3,none⟩=some (.int .i64 ((a.frames:Nat):Int)):=by unfold World.cell?;rw[kU];rfl
 have u4:(Z.setCell ⟨ab,0,none⟩ (.int .i32 0)).cell? ⟨w.heap.size,4,none⟩=some (.int .i64 ((a.lazies:Nat):Int)):=by unfold World.cell?;rw[kU];rfl
 have FIN:Hid (Below ab w (Z.setCell ⟨ab,0,none⟩ (.int .i32 0))∧AppAt (Z.setCell ⟨ab,0,none⟩ (.int .i32 0)) ab fns 0 c a):=⟨bwZ.trans (hAZ.set 0 _).2.2,hAZ.lock 0⟩
 have HZ:Hid (Z=((((Y.setCell _ _).setCell _ _).setCell _ _).setCell _ _).setCell _ _):=hZ
 have HX:Hid (X=W1.alloc _):=hX
 have HY:Hid (Y=X.setCell _ _):=hY
 go_enter_defers func24,ntmps24
 go_upto_region 1 with fail
 rw[←hW0]
 clear h0 h h1 hqv hql b1 bA q0 q1 hW0 hW1 c0 f0 hX hY bX bY qX qY qZ hZ bZ kZ hV bV hzV bwZ bVZ hAZ kU
 go_upto_region 4 with (first
  |(go_at_call 32;refine CLock.mono ?_;clear CLock;rintro e w1 ⟨rfl,rfl⟩))
 rw[←HX.out]
 clear HX c8 c9 c10 c11 c12 c4
 go_upto_region 5 with fail
 rw[←HY.out]
 clear HY x4 x0 xf
 go_wp2_with fail
 rw[←HZ.out]
 refine leaves_cons (f:=33) (args:=#[.pointer (some ⟨ab,0,none⟩)]) (by simp) (by simp[go_sem]) ?_
 refine (unlock_deferred muLib ⟨ab,0,none⟩ .returning _ z0 zf).mono ?_
 rintro e u' w5 ⟨rfl,rfl,rfl⟩
 exact⟨cntV a,by simp[results,results24,go_sem,u0,u1,u2,u3,u4,cntV],rfl,FIN.out⟩
end Go.Proofs.YtifhgjpglicjbaaGreatDoor
namespace Go.Proofs.YtifhgjpglicjbaaGreatDoor
open Go.Proofs.Tryz
inductive It where
 | op
 | cl
 | wd (w:List UInt8)
 | tx (b:List UInt8)
 | nm (d:List UInt8)
def It.k:It→K
 | .op=>.opn
 | .cl=>.cls
 | .wd _=>.word
 | .tx _=>.txt
 | .nm _=>.num
def It.bytes:It→List UInt8
 | .op=>[40]
 | .cl=>[41]
 | .wd w=>w
 | .tx b=>39::(b++[39])
 | .nm d=>d
abbrev Its:=List (It×Nat)
def rend:Its→List UInt8
 | []=>[]
 |(x,n)::r=>x.bytes++(List.replicate n 32++rend r)
def tkL (p:Nat):Its→List Tok
 | []=>[⟨.eof,p,[]⟩]
 |(x,n)::r=>⟨x.k,p,x.bytes⟩::tkL (p+x.bytes.length+n) r
def okI:It→Prop
 | .wd w=>1≤w.length∧w.length≤8∧∀c∈w,letter c=true
 | .nm d=>1≤d.length∧d.length≤9∧∀c∈d,digit c=true
 | .tx b=>b.length≤20∧∀c∈b,quot c=true
 | _=>True
def brkI:It→Bool
 | .op=>true
 | .cl=>true
 | .tx _=>true
 | _=>false
def sepI:It→Nat→Its→Prop
 | .wd _,n,(y,_)::_=>0<n∨brkI y=true
 | .nm _,n,(y,_)::_=>0<n∨brkI y=true
 | _,_,_=>True
def wfI:Its→Prop
 | []=>True
 |(x,n)::r=>okI x∧sepI x n r∧wfI r
theorem u8all {P:UInt8→Prop}(h:∀n:Fin 256,P (UInt8.ofNat n.1))(c:UInt8):P c:=by
 have:=h ⟨c.toNat,c.toNat_lt⟩
 simpa using this
theorem run_app (p:UInt8→Bool){u:List UInt8}(hu:∀c∈u,p c=true){v:List UInt8}(hv:∀c r,v=c::r→p c=false):runL p (u++v)=u.length:=by
 induction u with
 | nil =>
  cases v with
  | nil=>rfl
  | cons c r=>simp[runL_cons_false p c r (hv c r rfl)]
 | cons a u ih =>
  rw[List.cons_append,runL_cons_true p a _ (hu a (by simp)),ih fun c hc=>hu c (by simp[hc])]
  rfl
theorem rend_head {x:It}{n:Nat}{r:Its}(h:okI x):∃c t,rend ((x,n)::r)=c::t∧(brkI x=true→letter c=false∧digit c=false)∧blank c=false:=by
 cases x with
 | op=>exact⟨40,_,rfl,fun _=>⟨by decide,by decide⟩,by decide⟩
 | cl=>exact⟨41,_,rfl,fun _=>⟨by decide,by decide⟩,by decide⟩
 | tx b=>exact⟨39,_,rfl,fun _=>⟨by decide,by decide⟩,by decide⟩
 | wd w =>
  obtain⟨h1,_,h3⟩:=h
  cases w with
  | nil=>simp at h1
  | cons c t =>
   refine⟨c,_,rfl,(fun e=>by cases e),?_⟩
   have:=h3 c (by simp)
   have e:∀c:UInt8,letter c=true→blank c=false:=u8all (by decide +kernel)
   exact e c this
 | nm d =>
  obtain⟨h1,_,h3⟩:=h
  cases d with
  | nil=>simp at h1
  | cons c t =>
   refine⟨c,_,rfl,(fun e=>by cases e),?_⟩
   have:=h3 c (by simp)
   have e:∀c:UInt8,digit c=true→blank c=false:=u8all (by decide +kernel)
   exact e c this
theorem sep_head {x:It}(hx:(∃w,x=.wd w)∨∃d,x=.nm d){n:Nat}{r:Its}(hs:sepI x n r)(hw:wfI r):∀c t,List.replicate n 32++rend r=c::t→letter c=false∧digit c=false:=by
 intro c t e
 cases n with
 | succ n =>
  rw[List.replicate_succ,List.cons_append] at e
  cases e
  exact⟨by decide,by decide⟩
 | zero =>
  cases r with
  | nil=>simp[rend] at e
  | cons y r =>
   obtain⟨y,m⟩:=y
   rw[wfI] at hw
   obtain⟨c',t',e1,e2,_⟩:=rend_head (n:=m) (r:=r) hw.1
   have hb:brkI y=true:=by
    rcases hx with ⟨w,rfl⟩ | ⟨d,rfl⟩
    ·rcases hs with h | h
     ·omega
     ·exact h
    ·rcases hs with h | h
     ·omega
     ·exact h
   simp only[List.replicate_zero,List.nil_append] at e
   rw[e1] at e
   cases e
   exact e2 hb
theorem measure_it {x:It}{n:Nat}{r:Its}(h:okI x)(hs:sepI x n r)(hw:wfI r):measureL (x.bytes++(List.replicate n 32++rend r))=(x.k,x.bytes.length):=by
 cases x with
 | op=>rfl
 | cl=>rfl
 | tx b =>
  obtain⟨h1,h2⟩:=h
  generalize List.replicate n 32++rend r=R
  have e0:(It.tx b).bytes++R=39::(b++39::R):=by simp[It.bytes]
  have e1:runL quot (b++39::R)=b.length:=run_app quot h2 fun c t e=>by cases e;decide
  have e2:textL (39::(b++39::R))=some (b.length+2):=by
   unfold textL
   rw[List.drop_one,List.tail_cons,e1,if_neg]
   rintro (h | h)
   ·omega
   ·simp[startsB] at h
  rw[e0]
  show kindOf .txt (textL (39::(b++39::R)))=_
  rw[e2]
  simp[kindOf,It.bytes,It.k]
 | wd w =>
  obtain⟨h1,h2,h3⟩:=h
  have hh:=sep_head (Or.inl ⟨w,rfl⟩) hs hw
  have e1:runL letter (w++(List.replicate n 32++rend r))=w.length:=run_app letter h3 fun c t e=>(hh c t e).1
  cases w with
  | nil=>simp at h1
  | cons c t =>
   have hc:=h3 c (by simp)
   have e:∀c:UInt8,letter c=true→(c==40)=false∧(c==41)=false∧(c==39)=false∧(c==45)=false∧digit c=false:=u8all (by decide +kernel)
   obtain⟨a1,a2,a3,a4,a5⟩:=e c hc
   generalize List.replicate n 32++rend r=R at *
   have e2:wordL (c::(t++R))=some (c::t).length:=by
    unfold wordL
    rw[List.cons_append] at e1
    rw[e1,if_neg (by omega)]
   show measureL (c::(t++R))=(.word,(c::t).length)
   rw[measureL,if_neg (by simp[a1]),if_neg (by simp[a2]),if_neg (by simp[a3]),if_neg (by simp[a4,a5]),if_pos hc,e2]
   rfl
 | nm d =>
  obtain⟨h1,h2,h3⟩:=h
  have hh:=sep_head (Or.inr ⟨d,rfl⟩) hs hw
  have e1:runL digit (d++(List.replicate n 32++rend r))=d.length:=run_app digit h3 fun c t e=>(hh c t e).2
  cases d with
  | nil=>simp at h1
  | cons c t =>
   have hc:=h3 c (by simp)
   have e:∀c:UInt8,digit c=true→(c==40)=false∧(c==41)=false∧(c==39)=false∧(c==45)=false:=u8all (by decide +kernel)
   obtain⟨a1,a2,a3,a4⟩:=e c hc
   generalize List.replicate n 32++rend r=R at *
   have eu:unsignL (c::(t++R))=c::(t++R):=by
    unfold unsignL startsB
    rw[if_neg]
    simpa using a4
   have e2:numL (c::(t++R))=some (c::t).length:=by
    unfold numL
    rw[List.cons_append] at e1
    rw[eu,e1,if_neg (by omega),Nat.sub_self,Nat.zero_add]
   show measureL (c::(t++R))=(.num,(c::t).length)
   rw[measureL,if_neg (by simp[a1]),if_neg (by simp[a2]),if_neg (by simp[a3]),if_pos (by simp[hc]),e2]
   rfl
theorem toks_is {s:List UInt8}:∀(r:Its) (q nb:Nat),s.drop q=List.replicate nb 32++rend r→q≤s.length→wfI r→IsToks s q (tkL (q+nb) r)
 | [],q,nb,hd,hq,_=>by
  have e1:runL blank (s.drop q)=nb:=by
   rw[hd]
   have:=run_app blank (u:=List.replicate nb 32) (v:=rend []) (fun c hc=>by rw[List.eq_of_mem_replicate hc];decide) (fun c r e=>by cases e)
   simpa using this
  have e2:s.drop (q+nb)=[]:=by
   rw[←List.drop_drop,hd]
   simp[rend]
  have hn:nextTok s q=⟨.eof,q+nb,[]⟩:=by
   simp only[nextTok,e1,e2]
   rfl
  rw[tkL,←hn]
  exact .last (Or.inl (by rw[hn]))
 |(x,n)::r,q,nb,hd,hq,hw=>by
  rw[wfI] at hw
  obtain⟨h1,h2,h3⟩:=hw
  obtain⟨c,t,hc,_,hb⟩:=rend_head (n:=n) (r:=r) h1
  have e1:runL blank (s.drop q)=nb:=by
   rw[hd]
   have:=run_app blank (u:=List.replicate nb 32) (v:=rend ((x,n)::r)) (fun c hc=>by rw[List.eq_of_mem_replicate hc];decide) (fun c' r' e=>by rw[hc] at e;cases e;exact hb)
   simpa using this
  have e2:s.drop (q+nb)=x.bytes++(List.replicate n 32++rend r):=by
   rw[←List.drop_drop,hd]
   simp[rend]
  have hn:nextTok s q=⟨x.k,q+nb,x.bytes⟩:=by
   simp only[nextTok,e1,e2,measure_it h1 h2 h3]
   simp
  have hl:s.length=q+nb+(x.bytes.length+(n+(rend r).length)):=by
   have:=congrArg List.length e2
   simp only[List.length_drop,List.length_append,List.length_replicate] at this
   have hx:0<x.bytes.length:=by
    cases x with
    | wd w=>exact h1.1
    | nm d=>exact h1.1
    | _=>simp[It.bytes]
   omega
  have ih:=toks_is (s:=s) r (q+nb+x.bytes.length) n (by
   rw[←List.drop_drop,e2]
   simp) (by omega) h3
  have hk:x.k≠.eof∧x.k≠.bad:=by cases x<;>exact⟨(fun e=>by cases e),(fun e=>by cases e)⟩
  rw[tkL]
  have:=IsToks.more (s:=s) (p:=q) (ts:=tkL (q+nb+x.bytes.length+n) r) (by rw[hn];exact hk.1) (by rw[hn];exact hk.2) (by rw[hn];exact ih)
  rw[hn] at this
  exact this
theorem toks_all {r:Its}(h:wfI r):IsToks (rend r) 0 (tkL 0 r):=toks_is r 0 0 (by simp) (Nat.zero_le _) h
def listW:List UInt8:=[108,105,115,116]
mutual
inductive SX where
 | n (d:List UInt8)
 | t (b:List UInt8)
 | l (nb:Nat) (ks:SXs)
inductive SXs where
 | nil
 | cons (x:SX) (nb:Nat) (r:SXs)
end
mutual
def SX.its:SX→Nat→Its
 | .n d,m=>[(.nm d,m)]
 | .t b,m=>[(.tx b,m)]
 | .l nb ks,m=>(.op,0)::(.wd listW,nb)::(ks.its++[(.cl,m)])
def SXs.its:SXs→Its
 | .nil=>[]
 | .cons x nb r=>x.its nb++r.its
end
def itsW:Its→Nat
 | []=>0
 |(x,n)::r=>x.bytes.length+n+itsW r
theorem itsW_app:∀a b:Its,itsW (a++b)=itsW a+itsW b
 | [],b=>by simp[itsW]
 |(x,n)::r,b=>by simp only[List.cons_append,itsW,itsW_app r b];omega
def tk0 (p:Nat):Its→List Tok
 | []=>[]
 |(x,n)::r=>⟨x.k,p,x.bytes⟩::tk0 (p+x.bytes.length+n) r
theorem tk0_app:∀(a b:Its) (p:Nat),tk0 p (a++b)=tk0 p a++tk0 (p+itsW a) b
 | [],b,p=>by simp[tk0,itsW]
 |(x,n)::r,b,p=>by
  simp only[List.cons_append,tk0,itsW,tk0_app r b]
  congr 3
  omega
theorem tkL_app:∀(a b:Its) (p:Nat),tkL p (a++b)=tk0 p a++tkL (p+itsW a) b
 | [],b,p=>by simp[tk0,itsW]
 |(x,n)::r,b,p=>by
  simp only[List.cons_append,tk0,tkL,itsW,tkL_app r b]
  congr 3
  omega
theorem tk0_len:∀(a:Its) (p:Nat),(tk0 p a).length=a.length
 | [],p=>rfl
 |(x,n)::r,p=>by simp[tk0,tk0_len r]
theorem rend_len:∀a:Its,(rend a).length=itsW a
 | []=>rfl
 |(x,n)::r=>by simp[rend,itsW,rend_len r];omega
theorem rend_app:∀a b:Its,rend (a++b)=rend a++rend b
 | [],b=>rfl
 |(x,n)::r,b=>by simp[rend,rend_app r b]
mutual
def SX.dep:SX→Nat
 | .n _=>0
 | .t _=>0
 | .l _ ks=>1+ks.dep
def SXs.dep:SXs→Nat
 | .nil=>0
 | .cons x _ r=>max x.dep r.dep
end
mutual
def SX.ex (p:Nat):SX→Ex
 | .n d=>.num d
 | .t b=>.txt b
 | .l nb ks=>.form listW [] (p+1) (ks.exs (p+1+4+nb))
def SXs.exs (p:Nat):SXs→List Ex
 | .nil=>[]
 | .cons x nb r=>x.ex p::r.exs (p+itsW (x.its nb))
end
theorem shape_list:shapeL listW=some (false,-1):=by kernel_rfl
theorem inner_tx (b:List UInt8):innerL (39::(b++[39]))=b:=by simp[innerL]
theorem its_pos:∀(x:SX) (nb:Nat),∃i r,x.its nb=i::r∧i.1.k≠.cls
 | .n d,nb=>⟨_,_,rfl,by simp[It.k]⟩
 | .t b,nb=>⟨_,_,rfl,by simp[It.k]⟩
 | .l m ks,nb=>⟨_,_,rfl,by simp[It.k]⟩
mutual
theorem pE_sx:∀(x:SX) (f d p nb:Nat) (rest:List Tok),(x.its nb).length≤f→d≤16 →
  (d+x.dep≤16→pE (pL f) d (tk0 p (x.its nb)++rest)=.ok (x.ex p) rest)∧(¬ d+x.dep≤16→∃a,pE (pL f) d (tk0 p (x.its nb)++rest)=.err 3 a)
 | .n ds,f,d,p,nb,rest,_,hd=>⟨fun _=>rfl,fun h=>by simp[SX.dep] at h;omega⟩
 | .t b,f,d,p,nb,rest,_,hd=>by
  refine⟨fun _=>?_,fun h=>by simp[SX.dep] at h;omega⟩
  simp only[SX.its,tk0,List.cons_append,List.nil_append,pE,It.k,It.bytes,inner_tx,SX.ex]
 | .l m ks,f,d,p,nb,rest,hf,hd=>by
  have hf':ks.its.length+1≤f:=by simp[SX.its] at hf;omega
  have e0:tk0 p ((SX.l m ks).its nb)++rest=⟨.opn,p,[40]⟩::⟨.word,p+1,listW⟩::(tk0 (p+1+4+m) ks.its++⟨.cls,p+1+4+m+itsW ks.its,[41]⟩::rest):=by
   simp only[SX.its,tk0,tk0_app,List.cons_append,List.append_assoc,List.nil_append,It.k,It.bytes]
   rfl
  by_cases h16:d=16
  ·subst h16
   refine⟨fun h=>by simp only[SX.dep] at h;omega,fun _=>⟨p,?_⟩⟩
   rw[e0]
   simp[pE]
  ·have hL:=pL_sxs ks f (d+1) (p+1+4+m) (p+1+4+m+itsW ks.its) rest hf' (by omega)
   have eE:pE (pL f) d (tk0 p ((SX.l m ks).its nb)++rest)=formR listW [] (p+1) (pL f (d+1) (-1) (tk0 (p+1+4+m) ks.its++⟨.cls,p+1+4+m+itsW ks.its,[41]⟩::rest)):=by
    rw[e0]
    have es:shapeT ⟨.word,p+1,listW⟩=some (false,-1):=by
     unfold shapeT
     rw[if_pos rfl]
     exact shape_list
    simp only[pE,if_neg h16,pF,es]
   rw[eE]
   refine⟨fun h=>?_,fun h=>?_⟩
   ·rw[hL.1 (by simp only[SX.dep] at h;omega)]
    rfl
   ·obtain⟨a,ha⟩:=hL.2 (by simp only[SX.dep] at h;omega)
    exact⟨a,by rw[ha];rfl⟩
theorem pL_sxs:∀(ks:SXs) (f d p q:Nat) (rest:List Tok),ks.its.length+1≤f→d≤16 →
  (d+ks.dep≤16→pL f d (-1) (tk0 p ks.its++⟨.cls,q,[41]⟩::rest)=.ok (ks.exs p) rest)∧(¬ d+ks.dep≤16→∃a,pL f d (-1) (tk0 p ks.its++⟨.cls,q,[41]⟩::rest)=.err 3 a)
 | .nil,f,d,p,q,rest,hf,hd=>by
  obtain⟨g,rfl⟩:∃g,f=g+1:=⟨f-1,by omega⟩
  refine⟨fun _=>?_,fun h=>by simp[SXs.dep] at h;omega⟩
  simp[SXs.its,tk0,pL,SXs.exs]
 | .cons x nb r,f,d,p,q,rest,hf,hd=>by
  obtain⟨g,rfl⟩:∃g,f=g+1:=⟨f-1,by simp[SXs.its] at hf;omega⟩
  obtain⟨i,t,e1,hk⟩:=its_pos x nb
  have hx1:1≤(x.its nb).length:=by rw[e1];simp
  have hfl:(x.its nb).length+r.its.length+1≤g+1:=by simp[SXs.its] at hf;omega
  have hE:=pE_sx x g d p nb (tk0 (p+itsW (x.its nb)) r.its++⟨.cls,q,[41]⟩::rest) (by omega) hd
  have hR:=pL_sxs r g d (p+itsW (x.its nb)) q rest (by omega) hd
  have e0:tk0 p (SXs.cons x nb r).its++⟨.cls,q,[41]⟩::rest=tk0 p (x.its nb)++(tk0 (p+itsW (x.its nb)) r.its++⟨.cls,q,[41]⟩::rest):=by
   simp only[SXs.its,tk0_app,List.append_assoc]
  have eL:pL (g+1) d (-1) (tk0 p (SXs.cons x nb r).its++⟨.cls,q,[41]⟩::rest)=match pE (pL g) d (tk0 p (x.its nb)++(tk0 (p+itsW (x.its nb)) r.its++⟨.cls,q,[41]⟩::rest)) with
    | .err c a=>.err c a
    | .ok e r'=>consR e (pL g d (-1) r'):=by
   rw[e0]
   obtain⟨i1,i2⟩:=i
   rw[e1]
   simp only[tk0,List.cons_append,pL]
   have hc:¬ i1.k=.cls:=hk
   simp[hc]
   rfl
  rw[eL]
  refine⟨fun h=>?_,fun h=>?_⟩
  ·simp only[SXs.dep] at h
   rw[hE.1 (by omega)]
   simp only
   rw[hR.1 (by omega)]
   rfl
  ·simp only[SXs.dep] at h
   by_cases hx:d+x.dep≤16
   ·rw[hE.1 hx]
    simp only
    obtain⟨a,ha⟩:=hR.2 (by omega)
    exact⟨a,by rw[ha];rfl⟩
   ·obtain⟨a,ha⟩:=hE.2 hx
    exact⟨a,by rw[ha]⟩
end
def buPre:List UInt8:=[40,102,117,110,32,116,97,32,40,109,41,32,40,108,105,115,116,32,39,97,39,32,109,41,41,32,40,102,117,110,32,116,98,32,40,109,41,32,40,108,105,115,116,32,39,98,39,32,109,41,41,32,40,102,117,110,32,105,110,105,116,32,40,41,32,40,108,105,115,116,41,41,32,40,102,117,110,32,117,112,100,97,116,101,32,40,109,32,110,41,32,40,106,111,105,110,32,110,32,40,108,105,115,116,32,109,41,41,41,32,40,102,117,110,32,118,105,101,119,32,40,110,41,32]
def buI:Its:=[(.op,0),(.wd [102,117,110],1),(.wd [116,97],1),(.op,0),(.wd [109],0),(.cl,1),(.op,0),(.wd [108,105,115,116],1),(.tx [97],1),(.wd [109],0),(.cl,0),(.cl,1),(.op,0),(.wd [102,117,110],1),(.wd [116,98],1),(.op,0),(.wd [109],0),(.cl,1),(.op,0),(.wd [108,105,115,116],1),(.tx [98],1),(.wd [109],0),(.cl,0),(.cl,1),(.op,0),(.wd [102,117,110],1),(.wd [105,110,105,116],1),(.op,0),(.cl,1),(.op,0),(.wd [108,105,115,116],0),(.cl,0),(.cl,1),(.op,0),(.wd [102,117,110],1),(.wd [117,112,100,97,116,101],1),(.op,0),(.wd [109],1),(.wd [110],0),(.cl,1),(.op,0),(.wd [106,111,105,110],1),(.wd [110],1),(.op,0),(.wd [108,105,115,116],1),(.wd [109],0),(.cl,0),(.cl,0),(.cl,1),(.op,0),(.wd [102,117,110],1),(.wd [118,105,101,119],1),(.op,0),(.wd [110],0),(.cl,1)]
theorem bu_rend:rend buI=buPre:=by kernel_rfl
def buTa:Fn:=⟨[116,97],5,[([109],9)],.form [108,105,115,116] [] 13 [.txt [97],.var [109] 22]⟩
def buTb:Fn:=⟨[116,98],31,[([109],35)],.form [108,105,115,116] [] 39 [.txt [98],.var [109] 48]⟩
def buIn:Fn:=⟨[105,110,105,116],57,[],.form [108,105,115,116] [] 66 []⟩
def buUp:Fn:=⟨[117,112,100,97,116,101],78,[([109],86),([110],88)],.form [106,111,105,110] [] 92 [.var [110] 97,.form [108,105,115,116] [] 100 [.var [109] 105]]⟩
def buVi (b:Ex):Fn:=⟨[118,105,101,119],115,[([110],121)],b⟩
def buF (b:Ex):List Fn:=[buTa,buTb,buIn,buUp,buVi b]
def buIts (x:SX):Its:=buI++(x.its 0++[(.cl,0)])
def buTx (x:SX):List UInt8:=buPre++(rend (x.its 0)++[41])
theorem buTx_rend (x:SX):rend (buIts x)=buTx x:=by
 unfold buIts buTx
 rw[rend_app,rend_app,bu_rend]
 rfl
theorem buW:itsW buI=124:=by kernel_rfl
theorem buL:buI.length=55:=by kernel_rfl
theorem pL_one (x:SX)(f p q:Nat)(rest:List Tok)(hf:(x.its 0).length≤f+1):
  (1+x.dep≤16→pL (f+2) 1 1 (tk0 p (x.its 0)++⟨.cls,q,[41]⟩::rest)=.ok [x.ex p] rest)∧(¬ 1+x.dep≤16→∃a,pL (f+2) 1 1 (tk0 p (x.its 0)++⟨.cls,q,[41]⟩::rest)=.err 3 a):=by
 obtain⟨i,t,e1,hk⟩:=its_pos x 0
 have hE:=pE_sx x (f+1) 1 p 0 (⟨.cls,q,[41]⟩::rest) hf (by omega)
 have eL:pL (f+2) 1 1 (tk0 p (x.its 0)++⟨.cls,q,[41]⟩::rest)=match pE (pL (f+1)) 1 (tk0 p (x.its 0)++⟨.cls,q,[41]⟩::rest) with
   | .err c a=>.err c a
   | .ok e r'=>consR e (pL (f+1) 1 0 r'):=by
  obtain⟨i1,i2⟩:=i
  rw[e1]
  simp only[tk0,List.cons_append,pL]
  simp
  rfl
 rw[eL]
 refine⟨fun h=>?_,fun h=>?_⟩
 ·rw[hE.1 h]
  simp[pL,consR]
 ·obtain⟨a,ha⟩:=hE.2 h
  exact⟨a,by rw[ha]⟩
theorem bu_step (N:Nat)(Y:List Tok):pProg (N+58) (tk0 0 buI++Y)=consF buTa (consF buTb (consF buIn (consF buUp (match bodyR [118,105,101,119] 115 [([110],121)] (pL (N+54) 1 1 Y) with
  | .err c a=>.err c a
  | .ok fn r=>consF fn (pProg (N+53) r))))):=by kernel_rfl
theorem bu_toks (x:SX):tkL 0 (buIts x)=tk0 0 buI++(tk0 124 (x.its 0)++[⟨.cls,124+itsW (x.its 0),[41]⟩,⟨.eof,124+itsW (x.its 0)+1,[]⟩]):=by
 unfold buIts
 rw[tkL_app,tkL_app,buW,Nat.zero_add]
 rfl
theorem bu_parse (x:SX):(1+x.dep≤16→pProg ((tkL 0 (buIts x)).length+1) (tkL 0 (buIts x))=.ok (buF (x.ex 124)) [])∧(¬ 1+x.dep≤16→∃a,pProg ((tkL 0 (buIts x)).length+1) (tkL 0 (buIts x))=.err 3 a):=by
 have hl:(tkL 0 (buIts x)).length+1=(x.its 0).length+58:=by
  rw[bu_toks]
  simp only[List.length_append,tk0_len,buL,List.length_cons,List.length_nil]
  omega
 rw[hl,bu_toks,bu_step]
 have h1:=pL_one x ((x.its 0).length+52) 124 (124+itsW (x.its 0)) [⟨.eof,124+itsW (x.its 0)+1,[]⟩] (by omega)
 refine⟨fun h=>?_,fun h=>?_⟩
 ·rw[h1.1 h]
  rfl
 ·obtain⟨a,ha⟩:=h1.2 h
  exact⟨a,by rw[ha];rfl⟩
mutual
theorem nm_sx (fs:List (List UInt8×Nat))(sc:List (List UInt8)):∀(x:SX) (p:Nat),nmE fs sc (x.ex p)=none
 | .n d,p=>by rw[SX.ex,nmE]
 | .t b,p=>by rw[SX.ex,nmE]
 | .l nb ks,p=>by
  rw[SX.ex,nm_other (by decide) (by decide) (by decide)]
  exact nm_sxs fs sc ks _
theorem nm_sxs (fs:List (List UInt8×Nat))(sc:List (List UInt8)):∀(ks:SXs) (p:Nat),nmEs fs sc (ks.exs p)=none
 | .nil,p=>by rw[SXs.exs,nmEs]
 | .cons x nb r,p=>by
  rw[SXs.exs,nmEs,nm_sx fs sc x,nm_sxs fs sc r]
  rfl
end
theorem bu_names (e:Ex):nmAll [] (buF e)=(match nmE [([116,97],1),([116,98],1),([105,110,105,116],0),([117,112,100,97,116,101],2)] [[110]] e with | some x=>some x | none=>none):=by kernel_rfl
theorem bu_main (e:Ex):mainP (buF e)=true:=by kernel_rfl
theorem bu_chk (x:SX)(n p:Nat)(r:List Tok):chk n (.ok (buF (x.ex p)) r)=none:=by
 rw[chk,bu_names,nm_sx]
 simp only
 rw[if_pos (bu_main _)]
mutual
def okX:SX→Prop
 | .n d=>1≤d.length∧d.length≤9∧∀c∈d,digit c=true
 | .t b=>b.length≤20∧∀c∈b,quot c=true
 | .l nb ks=>0<nb∧okXs ks
def okXs:SXs→Prop
 | .nil=>True
 | .cons x nb r=>okX x∧(0<nb∨r=.nil)∧okXs r
end
mutual
theorem wf_sx:∀(x:SX) (nb:Nat) (r:Its),okX x→(0<nb∨r=[]∨∃m t,r=(.cl,m)::t)→wfI r→wfI (x.its nb++r)
 | .n d,nb,r,h,hs,hr=>by
  rw[okX] at h
  simp only[SX.its,List.cons_append,List.nil_append,wfI]
  refine⟨h,?_,hr⟩
  rcases hs with hs | rfl | ⟨m,t,rfl⟩
  ·cases r with
   | nil=>trivial
   | cons y r=>exact Or.inl hs
  ·trivial
  ·exact Or.inr rfl
 | .t b,nb,r,h,hs,hr=>by
  rw[okX] at h
  simp only[SX.its,List.cons_append,List.nil_append,wfI]
  exact⟨h,trivial,hr⟩
 | .l m ks,nb,r,h,hs,hr=>by
  rw[okX] at h
  have h1:=wf_sxs ks ((.cl,nb)::r) h.2 ⟨nb,r,rfl⟩ ⟨trivial,trivial,hr⟩
  simp only[SX.its,List.cons_append,List.append_assoc,List.nil_append,wfI]
  refine⟨trivial,trivial,⟨by decide,by decide,by decide⟩,?_,h1⟩
  cases ks.its++(It.cl,nb)::r with
  | nil=>trivial
  | cons y t=>exact Or.inl h.1
theorem wf_sxs:∀(ks:SXs) (r:Its),okXs ks→(∃m t,r=(.cl,m)::t)→wfI r→wfI (ks.its++r)
 | .nil,r,_,_,hr=>by simpa[SXs.its] using hr
 | .cons x nb ks,r,h,hc,hr=>by
  rw[okXs] at h
  have h1:=wf_sxs ks r h.2.2 hc hr
  simp only[SXs.its,List.append_assoc]
  refine wf_sx x nb _ h.1 ?_ h1
  rcases h.2.1 with h2 | rfl
  ·exact Or.inl h2
  ·simp only[SXs.its,List.nil_append]
   exact Or.inr (Or.inr hc)
end
theorem wf_pre {r:Its}(h:wfI r):wfI (buI++r):=by
 unfold buI
 simp +decide [wfI,okI,sepI,h]
theorem bu_is (x:SX)(h:okX x):IsToks (buTx x) 0 (tkL 0 (buIts x)):=by
 rw[←buTx_rend]
 refine toks_all (wf_pre ?_)
 exact wf_sx x 0 _ h (Or.inr (Or.inr ⟨0,[],rfl⟩)) ⟨trivial,trivial,trivial⟩
theorem bu_len (x:SX):(buTx x).length=125+itsW (x.its 0):=by
 rw[←buTx_rend,rend_len,buIts,itsW_app,itsW_app,buW]
 simp[itsW,It.bytes]
 omega
theorem bu_loads (x:SX)(h:okX x)(hd:1+x.dep≤16)(hw:itsW (x.its 0)≤1800):Loads (buTx x) (buF (x.ex 124)):=by
 have hts:=bu_is x h
 have hp:=(bu_parse x).1 hd
 have hc:=bu_chk x (buTx x).length 124 []
 have hl:=bu_len x
 refine⟨⟨_,[],hts,?_,hp⟩,progOk_of hts (by omega) hp hc,?_⟩
 ·rw[answer,if_neg (by omega),hp,hc]
 ·refine (nmAll_uniq _ [] ?_).2
  show nmAll [] _=none
  rw[bu_names,nm_sx]
theorem bu_deep (x:SX)(_h:okX x)(hd:¬ 1+x.dep≤16)(hw:itsW (x.its 0)≤1800):∃a,answer (buTx x).length (tkL 0 (buIts x))=some (3,a):=by
 obtain⟨a,hp⟩:=(bu_parse x).2 hd
 have hl:=bu_len x
 exact⟨a,by rw[answer,if_neg (by omega),hp];rfl⟩
end Go.Proofs.YtifhgjpglicjbaaGreatDoor
namespace Go.Proofs.YtifhgjpglicjbaaGreatDoor
open Go.Proofs.Tryz
open Go.Lib
mutual
def SX.val:SX→PV
 | .n d=>.num (numVal d)
 | .t b=>.txt b
 | .l _ ks=>.lst ks.vals
def SXs.vals:SXs→List PV
 | .nil=>[]
 | .cons x _ r=>x.val::r.vals
end
mutual
def SX.cnt:SX→Nat
 | .n _=>1
 | .t _=>1
 | .l _ ks=>ks.cnt+1
def SXs.cnt:SXs→Nat
 | .nil=>0
 | .cons x _ r=>r.cnt+x.cnt
end
theorem wt_first {v:PV}{l:List PV}:wtV v≤wtVs (v::l)∧wtVs l≤wtVs (v::l):=by rw[wtVs];omega
mutual
theorem ev_sx (F:List Fn)(s:Env):∀(x:SX) (f k p:Nat),x.dep<f→wtV x.val≤600→evE F f (k+x.cnt) s (x.ex p)=some (x.val,k)
 | .n d,f,k,p,hf,_=>by
  obtain⟨g,rfl⟩:∃g,f=g+1:=⟨f-1,by omega⟩
  rfl
 | .t b,f,k,p,hf,_=>by
  obtain⟨g,rfl⟩:∃g,f=g+1:=⟨f-1,by omega⟩
  rfl
 | .l nb ks,f,k,p,hf,hw=>by
  obtain⟨g,rfl⟩:∃g,f=g+1:=⟨f-1,by omega⟩
  simp only[SX.dep] at hf
  rw[SX.val,wtV] at hw
  have h:=ev_sxs F s ks g k (p+1+4+nb) (by omega) (by omega)
  show evE F (g+1) (k+ks.cnt+1) s (.form listW [] (p+1) (ks.exs (p+1+4+nb)))=_
  rw[evE,evX,if_neg (by decide),if_neg (by decide),h]
  show evF _ _ _ _ _ _=_
  unfold evF
  rw[if_pos (show listW=[108,105,115,116] from rfl),lightL,wtV,if_pos hw]
  rfl
theorem ev_sxs (F:List Fn)(s:Env):∀(ks:SXs) (f k p:Nat),ks.dep<f→wtVs ks.vals≤600→evL (fun k e=>evE F f k s e) (k+ks.cnt) (ks.exs p)=some (ks.vals,k)
 | .nil,f,k,p,hf,_=>rfl
 | .cons x nb r,f,k,p,hf,hw=>by
  simp only[SXs.dep] at hf
  rw[SXs.vals] at hw
  have h1:=ev_sx F s x f (k+r.cnt) p (by omega) (by have:=(wt_first (v:=x.val) (l:=r.vals)).1;omega)
  have h2:=ev_sxs F s r f k (p+itsW (x.its nb)) (by omega) (by have:=(wt_first (v:=x.val) (l:=r.vals)).2;omega)
  rw[SXs.exs,SXs.cnt,evL,←Nat.add_assoc,h1]
  simp only[h2]
  rfl
end
theorem bu_view (x:SX)(v:PV)(hd:x.dep≤1000)(hc:x.cnt≤19000)(hw:wtV x.val≤600):reckP (buF (x.ex 124)) viewB.data.toList [v]=some x.val:=by
 have h:=ev_sx (buF (x.ex 124)) [([110],v)] x 20000 (20000-x.cnt) 124 (by omega) hw
 rw[show 20000-x.cnt+x.cnt=20000 by omega] at h
 have e:reckP (buF (x.ex 124)) viewB.data.toList [v]=(evE (buF (x.ex 124)) 20000 20000 [([110],v)] (x.ex 124)).map (·.1):=by kernel_rfl
 rw[e,h]
 rfl
theorem bu_init (e:Ex):reckP (buF e) initB.data.toList []=some (.lst []):=by kernel_rfl
def taW (b:Bool):List UInt8:=if b then [116,98] else [116,97]
def taC (b:Bool):List UInt8:=if b then [98] else [97]
theorem bu_tag (e:Ex)(b:Bool)(m:PV)(hm:wtV m≤590):reckP (buF e) (taW b) [m]=some (.lst [.txt (taC b),m]):=by
 have h1:1+wtVs [.txt (taC b),m]≤600:=by
  have:(taC b).length=1:=by cases b<;>rfl
  simp only[wtVs,wtV,this]
  omega
 cases b
 ·have e1:reckP (buF e) (taW false) [m]=(lightL (some ([.txt [97],m],19997))).map (·.1):=by kernel_rfl
  rw[e1,lightL,wtV]
  exact congrArg (Option.map _) (if_pos h1)
 ·have e1:reckP (buF e) (taW true) [m]=(lightL (some ([.txt [98],m],19997))).map (·.1):=by kernel_rfl
  rw[e1,lightL,wtV]
  exact congrArg (Option.map _) (if_pos h1)
theorem bv_cons {E:Nat→Ex→Option (PV×Nat)}{k k1 k2:Nat}{e:Ex}{es:List Ex}{v:PV}{vs:List PV}(h1:E k e=some (v,k1))(h2:evL E k1 es=some (vs,k2)):evL E k (e::es)=some (v::vs,k2):=by
 rw[evL,h1]
 simp only[h2]
theorem bv_list {F:List Fn}{f k k' p:Nat}{s:Env}{ks:List Ex}{vs:List PV}(h:evL (fun k e=>evE F f k s e) k ks=some (vs,k'))(hw:1+wtVs vs≤600):evE F (f+1) (k+1) s (.form [108,105,115,116] [] p ks)=some (.lst vs,k'):=by
 rw[evE,evX,if_neg (by decide),if_neg (by decide),h]
 show evF _ _ _ _ _ _=_
 unfold evF
 rw[if_pos rfl,lightL,wtV,if_pos hw]
theorem bv_join {F:List Fn}{f k k' p:Nat}{s:Env}{ks:List Ex}{a b:List PV}(h:evL (fun k e=>evE F f k s e) k ks=some ([.lst a,.lst b],k'))(hw:1+wtVs (a++b)≤600):evE F (f+1) (k+1) s (.form [106,111,105,110] [] p ks)=some (.lst (a++b),k'):=by
 rw[evE,evX,if_neg (by decide),if_neg (by decide),h]
 show evF _ _ _ _ _ _=_
 unfold evF
 rw[if_neg (by decide),if_neg (by decide),if_neg (by decide)]
 have e1:simpleV [106,111,105,110] [.lst a,.lst b]=some (.lst (a++b)):=by rfl
 rw[e1,lightV,if_pos (by rw[wtV];exact hw)]
 rfl
theorem bu_upd (e:Ex)(m:PV)(l:List PV)(hw:1+wtVs (l++[m])≤600)(hm:1+wtVs [m]≤600):reckP (buF e) updB.data.toList [m,.lst l]=some (.lst (l++[m])):=by
 have e1:reckP (buF e) updB.data.toList [m,.lst l]=(evE (buF e) 20000 20000 [([110],.lst l),([109],m)] (.form [106,111,105,110] [] 92 [.var [110] 97,.form [108,105,115,116] [] 100 [.var [109] 105]])).map (·.1):=by kernel_rfl
 have h1:evE (buF e) 19999 19999 [([110],.lst l),([109],m)] (.var [110] 97)=some (.lst l,19998):=by kernel_rfl
 have h2:evL (fun k x=>evE (buF e) 19998 k [([110],.lst l),([109],m)] x) 19997 [.var [109] 105]=some ([m],19996):=by kernel_rfl
 have h3:evE (buF e) 19999 19998 [([110],.lst l),([109],m)] (.form [108,105,115,116] [] 100 [.var [109] 105])=some (.lst [m],19996):=bv_list h2 hm
 have h4:=bv_join (F:=buF e) (f:=19999) (k:=19999) (p:=92) (s:=[([110],.lst l),([109],m)]) (bv_cons h1 (bv_cons h3 (show evL (fun k x=>evE (buF e) 19999 k [([110],.lst l),([109],m)] x) 19996 []=some ([],19996) from rfl))) hw
 rw[e1,h4]
 rfl
def goW:List UInt8:=[103,111]
def onW:List UInt8:=[111,110]
def lastW:List UInt8:=[108,97,115,116]
def elW:List UInt8:=[101,108]
def endW:List UInt8:=[101,110,100]
def h1b (k:Nat):Bool:=decide (k % 2=1)
def h2b (k:Nat):Bool:=decide (3<k % 6)
def tgb (k:Nat):Bool:=decide (1<k % 4)
def dgt (i:Nat):List UInt8:=itoa ((i:Nat):Int)
def hd1 (i:Nat):SX:=.l 1 (.cons (.t onW) 1 (.cons (.t goW) 1 (.cons (.n (dgt i)) 0 .nil)))
def hd2 (k:Nat):SX:=.l 1 (.cons (.t onW) 1 (.cons (.t goW) 1 (.cons (.t lastW) 1 (.cons (.n (dgt (k % 2))) 0 .nil))))
def hdX (i k:Nat):SX:=if h1b k then (if h2b k then .l 1 (.cons (hd1 i) 1 (.cons (hd2 k) 0 .nil)) else .l 1 (.cons (hd1 i) 0 .nil)) else (if h2b k then .l 2 (.cons (hd2 k) 0 .nil) else .l 1 .nil)
def elX (i k:Nat)(s:SX):SX:=.l 1 (.cons (.t elW) 1 (.cons (.t [100]) 1 (.cons (hdX i k) 1 (.cons (.l 1 (.cons (.n [55]) 1 (.cons s 0 .nil))) 0 .nil))))
def tgX (i:Nat)(s:SX):SX:=.l 1 (.cons (.t [116,97,103]) 1 (.cons (.t (taW (decide (i % 2=1)))) 1 (.cons s 0 .nil)))
def lvX (i:Nat):List Nat→SX
 | []=>.t endW
 | k::r=>if tgb k then tgX i (elX i k (lvX (i+1) r)) else elX i k (lvX (i+1) r)
theorem dgt10:∀i:Fin 10,(dgt i.1).length=1∧(∀c∈dgt i.1,digit c=true)∧numVal (dgt i.1)=(i.1:Int):=by decide +kernel
theorem ok_hd {i k:Nat}(hi:i<10):okX (hdX i k):=by
 have h1:=dgt10 ⟨i,hi⟩
 have h2:=dgt10 ⟨k % 2,by omega⟩
 have a1:okX (hd1 i):=by
  simp only[hd1,okX,okXs]
  exact⟨by omega,⟨by decide,by decide⟩,Or.inl (by omega),⟨by decide,by decide⟩,Or.inl (by omega),⟨by have:=h1.1;simp only at this;omega,by have:=h1.1;simp only at this;omega,h1.2.1⟩,Or.inr trivial,trivial⟩
 have a2:okX (hd2 k):=by
  simp only[hd2,okX,okXs]
  exact⟨by omega,⟨by decide,by decide⟩,Or.inl (by omega),⟨by decide,by decide⟩,Or.inl (by omega),⟨by decide,by decide⟩,Or.inl (by omega),⟨by have:=h2.1;simp only at this;omega,by have:=h2.1;simp only at this;omega,h2.2.1⟩,Or.inr trivial,trivial⟩
 unfold hdX
 split
 ·split
  ·simp only[okX,okXs]
   exact⟨by omega,a1,Or.inl (by omega),a2,Or.inr trivial,trivial⟩
  ·simp only[okX,okXs]
   exact⟨by omega,a1,Or.inr trivial,trivial⟩
 ·split
  ·simp only[okX,okXs]
   exact⟨by omega,a2,Or.inr trivial,trivial⟩
  ·simp only[okX,okXs]
   exact⟨by omega,trivial⟩
theorem ok_lv:∀(r:List Nat) (i:Nat),i+r.length≤10→okX (lvX i r)
 | [],i,_=>by simp only[lvX,okX];exact⟨by decide,by decide⟩
 | k::r,i,h=>by
  simp only[List.length_cons] at h
  have ih:=ok_lv r (i+1) (by omega)
  have he:okX (elX i k (lvX (i+1) r)):=by
   simp only[elX,okX,okXs]
   exact⟨by omega,⟨by decide,by decide⟩,Or.inl (by omega),⟨by decide,by decide⟩,Or.inl (by omega),ok_hd (by omega),Or.inl (by omega),⟨by omega,⟨by decide,by decide,by decide⟩,Or.inl (by omega),ih,Or.inr trivial,trivial⟩,Or.inr trivial,trivial⟩
  rw[lvX]
  split
  ·simp only[tgX,okX,okXs]
   refine⟨by omega,⟨by decide,by decide⟩,Or.inl (by omega),⟨?_,?_⟩,Or.inl (by omega),he,Or.inr trivial,trivial⟩
   ·unfold taW;split<;>decide
   ·unfold taW;split<;>decide
  ·exact he
theorem dep_hd (i k:Nat):(hdX i k).dep≤2:=by
 unfold hdX
 split<;>split<;>simp[SX.dep,SXs.dep,hd1,hd2]
theorem itsW_l (nb:Nat)(ks:SXs)(m:Nat):itsW ((SX.l nb ks).its m)=6+nb+m+itsW ks.its:=by
 simp[SX.its,itsW,itsW_app,It.bytes,listW]
 omega
theorem w_hd {i k:Nat}(hi:i<10):itsW ((hdX i k).its 1)≤80:=by
 have h1:=(dgt10 ⟨i,hi⟩).1
 have h2:=(dgt10 ⟨k % 2,by omega⟩).1
 simp only at h1 h2
 unfold hdX
 split<;>split<;>simp[hd1,hd2,SXs.its,SX.its,itsW,It.bytes,listW,onW,goW,lastW,h1,h2]
theorem cnt_hd (i k:Nat):(hdX i k).cnt≤12:=by
 unfold hdX
 split<;>split<;>simp[SX.cnt,SXs.cnt,hd1,hd2]
theorem wt_hd (i k:Nat):wtV (hdX i k).val≤24:=by
 unfold hdX
 split<;>split<;>simp[SX.val,SXs.vals,hd1,hd2,wtV,wtVs,onW,goW,lastW]
structure LvB (i:Nat)(r:List Nat):Prop where
 d1:(lvX i r).dep≤3*r.length+1
 d2:2*r.length≤(lvX i r).dep
 w:itsW ((lvX i r).its 0)≤150*r.length+5
 c:(lvX i r).cnt≤25*r.length+1
 t:wtV (lvX i r).val≤45*r.length+4
theorem its_w0:∀(x:SX) (m:Nat),itsW (x.its m)=itsW (x.its 0)+m
 | .n d,m=>by simp[SX.its,itsW]
 | .t b,m=>by simp[SX.its,itsW]
 | .l nb ks,m=>by rw[itsW_l,itsW_l];omega
theorem lv_b:∀(r:List Nat) (i:Nat),i+r.length≤10→LvB i r
 | [],i,_=>⟨by simp[lvX,SX.dep],by simp[lvX,SX.dep],by simp[lvX,SX.its,itsW,It.bytes,endW],by simp[lvX,SX.cnt],by simp[lvX,SX.val,wtV,endW]⟩
 | k::r,i,h=>by
  simp only[List.length_cons] at h
  have ih:=lv_b r (i+1) (by omega)
  have a1:=dep_hd i k
  have a2:=w_hd (i:=i) (k:=k) (by omega)
  have a3:=cnt_hd i k
  have a4:=wt_hd i k
  obtain⟨b1,b2,b3,b4,b5⟩:=ih
  have e1:(elX i k (lvX (i+1) r)).dep=1+max (hdX i k).dep (1+(lvX (i+1) r).dep):=by
   simp[elX,SX.dep,SXs.dep]
  have e2:itsW ((elX i k (lvX (i+1) r)).its 0)≤40+itsW ((hdX i k).its 1)+itsW ((lvX (i+1) r).its 0):=by
   simp[elX,SXs.its,SX.its,itsW,itsW_app,It.bytes,listW,elW]
   omega
  have e3:(elX i k (lvX (i+1) r)).cnt≤5+(hdX i k).cnt+(lvX (i+1) r).cnt:=by
   simp[elX,SX.cnt,SXs.cnt]
   omega
  have e4:wtV (elX i k (lvX (i+1) r)).val≤10+wtV (hdX i k).val+wtV (lvX (i+1) r).val:=by
   simp[elX,SX.val,SXs.vals,wtV,wtVs,elW]
   omega
  have ht:(taW (decide (i % 2=1))).length=2:=by unfold taW;split<;>rfl
  by_cases hg:tgb k=true
  ·have ex:lvX i (k::r)=tgX i (elX i k (lvX (i+1) r)):=by rw[lvX,if_pos hg]
   have f1:(tgX i (elX i k (lvX (i+1) r))).dep=1+(elX i k (lvX (i+1) r)).dep:=by simp[tgX,SX.dep,SXs.dep]
   have f2:itsW ((tgX i (elX i k (lvX (i+1) r))).its 0)≤30+itsW ((elX i k (lvX (i+1) r)).its 0):=by
    simp[tgX,SXs.its,SX.its,itsW,itsW_app,It.bytes,listW,ht]
    omega
   have f3:(tgX i (elX i k (lvX (i+1) r))).cnt≤3+(elX i k (lvX (i+1) r)).cnt:=by
    simp[tgX,SX.cnt,SXs.cnt]
    omega
   have f4:wtV (tgX i (elX i k (lvX (i+1) r))).val≤8+wtV (elX i k (lvX (i+1) r)).val:=by
    simp[tgX,SX.val,SXs.vals,wtV,wtVs,ht]
    omega
   exact⟨by rw[ex,f1,e1];simp only[List.length_cons];omega,by rw[ex,f1,e1];simp only[List.length_cons];omega,by rw[ex];simp only[List.length_cons];omega,by rw[ex];simp only[List.length_cons];omega,by rw[ex];simp only[List.length_cons];omega⟩
  ·have ex:lvX i (k::r)=elX i k (lvX (i+1) r):=by rw[lvX,if_neg hg]
   exact⟨by rw[ex,e1];simp only[List.length_cons];omega,by rw[ex,e1];simp only[List.length_cons];omega,by rw[ex];simp only[List.length_cons];omega,by rw[ex];simp only[List.length_cons];omega,by rw[ex];simp only[List.length_cons];omega⟩
end Go.Proofs.YtifhgjpglicjbaaGreatDoor
