/-
  The reference: names and their values.
-/
import Derived.Test.YtliapghpeoaonaaGreatDoorRvF
import Derived.Test.YtliapghpeoaonaaGreatDoorSegApp
set_option maxHeartbeats 4000000
set_option maxRecDepth 8000
namespace Go.Proofs.YtliapghpeoaonaaGreatDoor
open Go.Proofs.Tryz
open Go.RowKit Go.Lib
attribute [local go_sem ↓] Go.wp_at_zero Go.wp_at_succ
def strL (bs:List ByteArray):List Value:=bs.map Value.string
def Zds (ns:List ByteArray)(vs:List PV):Env:=((ns.map (·.data.toList)).zip vs).reverse
theorem Zt2 {ns:List ByteArray}{vs:List PV}(h:ns.length=vs.length)(n:ByteArray)(v:PV):Zds (ns++[n]) (vs++[v])=(n.data.toList,v)::Zds ns vs:=by
 unfold Zds
 rw[List.map_append,List.zip_append (by simpa using h)]
 simp
theorem envL_of:∀(k:Nat) (ns:List ByteArray) (vs:List PV),ns.length=k→vs.length=k→∀{n:List UInt8} {v:PV},Zey (Zds ns vs) n=some v→∃(j:Nat) (h1:j<ns.length) (h2:j<vs.length),(ns[j]'h1).data.toList=n∧vs[j]'h2=v∧∀i (hi:i<ns.length),j<i→(ns[i]'hi).data.toList≠n:=by
 intro k
 induction k with
 | zero =>
  intro ns vs h1 h2 n v h
  have e1:ns=[]:=List.eq_nil_of_length_eq_zero h1
  subst e1
  simp[Zds,Zey] at h
 | succ k ih =>
  intro ns vs h1 h2 n v h
  obtain⟨ns',nb,rfl⟩:∃ns' nb,ns=ns'++[nb]:=⟨ns.dropLast,ns.getLast (by intro e;rw[e] at h1;simp at h1),(List.dropLast_concat_getLast _).symm⟩
  obtain⟨vs',u,rfl⟩:∃vs' u,vs=vs'++[u]:=⟨vs.dropLast,vs.getLast (by intro e;rw[e] at h2;simp at h2),(List.dropLast_concat_getLast _).symm⟩
  simp at h1 h2
  rw[Zt2 (by omega)] at h
  simp only[Zey,List.find?_cons] at h
  by_cases hn:nb.data.toList=n
  ·subst hn
   simp at h
   subst h
   refine⟨k,by simp;omega,by simp;omega,?_,?_,fun i hi hlt=>by simp at hi;omega⟩
   ·simp[h1]
   ·simp[h2]
  ·have hb:(nb.data.toList==n)=false:=by simpa using hn
   simp only[hb] at h
   obtain⟨j,g1,g2,e1,e2,e3⟩:=ih ns' vs' h1 h2 h
   refine⟨j,by simp;omega,by simp;omega,?_,?_,fun i hi hlt=>?_⟩
   ·rw[List.getElem_append_left g1];exact e1
   ·rw[List.getElem_append_left g2];exact e2
   ·by_cases hi2:i<ns'.length
    ·rw[List.getElem_append_left hi2];exact e3 i hi2 hlt
    ·rw[List.getElem_append_right (by omega)]
     simpa using hn
def RS (w:World)(D:Nat→Prop)(ns:List ByteArray)(vs:List PV)(x:Value):Prop :=
 ∃nsl vsl cs,x=.agg #[nsl,vsl]∧Zar w D 9 1 nsl ns.length (strL ns)∧Zar w D 46 4 vsl vs.length cs∧RVs w D vs cs∧ns.length=vs.length
theorem RS.map {w w':World}{D D':Nat→Prop}(hR:∀e size sl n vs,Zar w D e size sl n vs→Zar w' D' e size sl n vs){ns:List ByteArray}{vs:List PV}{x:Value}(h:RS w D ns vs x):RS w' D' ns vs x:=by
 obtain⟨nsl,vsl,cs,h1,h2,h3,h4,h5⟩:=h
 exact⟨nsl,vsl,cs,h1,hR _ _ _ _ _ h2,hR _ _ _ _ _ h3,h4.map fun _ _ _ g=>hR _ _ _ _ _ g,h5⟩
theorem RS.below {w w':World}{D:Nat→Prop}{ns:List ByteArray}{vs:List PV}{x:Value}(h:RS w D ns vs x)(hb:Below w.heap.size w w'):RS w' D ns vs x:=h.map fun _ _ _ _ _ g=>g.below hb
theorem RS.touch {w w':World}{D S:Nat→Prop}{ns:List ByteArray}{vs:List PV}{x:Value}(h:RS w D ns vs x)(ht:Zaa S w w')(hD:∀k,D k→¬ S k):RS w' D ns vs x:=h.map fun _ _ _ _ _ g=>g.touch ht hD
theorem RS.heap {w w':World}{D:Nat→Prop}{ns:List ByteArray}{vs:List PV}{x:Value}(h:RS w D ns vs x)(hh:w'.heap=w.heap):RS w' D ns vs x:=h.map fun _ _ _ _ _ g=>g.heap hh
abbrev Zbr (a b:Value):Obj:=.cells #[a,b] 257
theorem scope_cells {w w2:World}{a b:Value}(hb:Below (w.heap.size+1) (w.alloc (Zbr a b)) w2):w2.cell? ⟨w.heap.size,0,none⟩=some a∧w2.cell? ⟨w.heap.size,1,none⟩=some b:=by
 have h0:w2.heap[w.heap.size]?=some (Zbr a b):=by rw[hb.block _ (by omega)];exact heap_alloc_new _ _
 constructor
 ·unfold World.cell?;rw[h0];rfl
 ·unfold World.cell?;rw[h0];rfl
theorem of_any (D:Nat→Prop)(ns:List ByteArray)(vs:List PV)(x:Value)(nb:ByteArray)(v:PV)(w:World)(h:RS w D ns vs x)(hl:ns.length≤100000)(hv:Zey (Zds ns vs) nb.data.toList=some v):
  Calls prog 169 #[x,.string nb] w fun e w'=>(∃y,e=.returned y∧RV w' D v y)∧Below w.heap.size w w':=by
 obtain⟨nsl,vsl,cs,rfl,h2,h3,h4,h5⟩:=h
 obtain⟨j,j1,j2,e1,e2,e3⟩:=envL_of ns.length ns vs rfl h5.symm hv
 obtain⟨g,o,cap,hsv,_,hc1,hc2,hcell⟩:=h2.cell (by omega)
 subst hsv
 obtain⟨g2,o2,cap2,hsv2,_,hd1,hd2,hcell2⟩:=h3.cell (by omega)
 subst hsv2
 obtain⟨va,vb,vc,vd,f0,f1,f2,f3,hrv⟩:=h4.at j j2
 rw[e2] at hrv
 obtain⟨kk,zz,ss,xad,xn,xc,ep,hkk⟩:=hrv.parts
 simp only[Value.agg.injEq,Array.mk.injEq,List.cons.injEq,and_true] at ep
 obtain⟨rfl,rfl,rfl,rfl⟩:=ep
 have k0:w.cell? ⟨g2,o2+j*4,none⟩=some (.int .u8 (kk:Int)):=by rw[hcell2 _ (by omega)];exact f0
 have k1:w.cell? ⟨g2,o2+j*4+1,none⟩=some (.int .i64 zz):=by rw[Nat.add_assoc,hcell2 _ (by omega)];exact f1
 have k2:w.cell? ⟨g2,o2+j*4+2,none⟩=some (.string ss):=by rw[Nat.add_assoc,hcell2 _ (by omega)];exact f2
 have k3:w.cell? ⟨g2,o2+j*4+3,none⟩=some (.slice xad xn xc):=by rw[Nat.add_assoc,hcell2 _ (by omega)];exact f3
 have hnm:Aside (∀i (hi:i<ns.length),w.cell? ⟨g,o+i,none⟩=some (.string ns[i])):=fun i hi=>by
  rw[hcell i (by omega)]
  simp[strL,hi]
 have hE:Aside (∀i (hi:i<ns.length),j<i→((ns[i]'hi).toList==nb.toList)=false):=fun i hi hlt=>by
  rw[ByteArray.toList_eq,ByteArray.toList_eq]
  simpa using e3 i hi hlt
 have hJ:Aside (((ns[j]'j1).toList==nb.toList)=true):=by
  show _=_
  rw[ByteArray.toList_eq,ByteArray.toList_eq,e1]
  simp
 have hvl:vs.length≤100000:=by omega
 have hH5:Aside (ns.length=vs.length):=h5
 have lg:=Zae k0
 simp only at lg
 have n0:w.heap.size≠g2:=by omega
 have n0':w.heap.size+1≠g2:=by omega
 clear e1 e2 e3 hcell hcell2 f0 f1 f2 f3 h4 hv h5
 unfold maxLen at hc2 hd2
 go_enter func169,ntmps169
 go_wp2
 go_loop [5] (fun iv=>∃i:Nat,j≤i∧i<ns.length∧iv=.int .i64 ((i:Nat):Int)) (fun iv=>(RowKit.intOf iv).toNat)
 case atStart=>exact⟨ns.length-1,by omega,by omega,by rw[show ((ns.length-1:Nat):Int)=(ns.length:Int)-1 by omega]⟩
 case round =>
  obtain⟨i,hi1,hi2,rfl⟩:=hrel
  have a0:=hnm.out i hi2
  have la:=Zae a0
  simp only at la
  have n1:w.heap.size≠g:=by omega
  have n1':w.heap.size+1≠g:=by omega
  by_cases hij:i=j
  ·subst hij
   have hJ2:=hJ.out
   generalize (ns[i]'hi2)=nj at *
   have hiv:((i:Nat):Int)<((vs.length:Nat):Int):=by omega
   go_wp2
   refine bodyPost_ret (v:=.agg #[.int .u8 (kk:Int),.int .i64 zz,.string ss,.slice xad xn xc]) (by simp[results,results169,go_sem]) rfl ⟨⟨_,rfl,hrv.below (below2 w _ _)⟩,below2 w _ _⟩
  ·have hE2:=hE.out i hi2 (by omega)
   generalize (ns[i]'hi2)=nj at *
   go_wp2
   go_round
   case rel=>exact⟨i-1,by omega,by omega,by rw[show ((i-1:Nat):Int)=(i:Int)-1 by omega]⟩
   case measure=>simp[RowKit.intOf];omega
theorem Tryz.infoStr:(prog.info? 9).map (fun i=>(i.zero,i.size,i.bytes))=some (some (.string ⟨#[]⟩),1,16):=by kernel_rfl
structure WS (w W:World)(nsl vsl x0 x1 x2 x3 a:Value)(n:Nat)(xs:List Value)(b:Value)(m:Nat)(ys:List Value):Prop where
 hb:Below w.heap.size w W
 b0:W.heap[w.heap.size]?=some (Zbr nsl vsl)
 b1:W.heap[w.heap.size+1]?=some (Zce x0 x1 x2 x3)
 b2:W.heap[w.heap.size+2]?=some (Zbr (.slice none 0 0) (.slice none 0 0))
 b3:W.heap[w.heap.size+3]?=some (Zbr a b)
 on:W.ownsRow (w.heap.size+4) 9 1 a n xs
 ov:W.ownsRow (w.heap.size+4) 46 4 b m ys
 ne:∀g,a.ownBlock=some g→b.ownBlock≠some g
theorem Zd2 {w:World}{B:Nat}{a b:Value}(h:w.heap[B]?=some (Zbr a b)):w.cell? ⟨B,0,none⟩=some a∧w.cell? ⟨B,1,none⟩=some b∧∀j,w.frozen? ⟨B,j,none⟩=false:=by
 refine⟨?_,?_,fun j=>?_⟩
 ·unfold World.cell?;rw[h];rfl
 ·unfold World.cell?;rw[h];rfl
 ·unfold World.frozen?;rw[h];rfl
section
variable {w W X w5:World} {nsl vsl x0 x1 x2 x3 a a' b b':Value} {n m k:Nat} {xs ys zs:List Value}
theorem WS.lt (h:WS w W nsl vsl x0 x1 x2 x3 a n xs b m ys):w.heap.size+3<W.heap.size:=Zag h.b3
theorem WS.names (h:WS w W nsl vsl x0 x1 x2 x3 a n xs b m ys)(hX:Below W.heap.size W X)(own5:w5.ownsRow (w.heap.size+4) 9 1 a' k zs)(hg:X.grownBy w5 a.ownBlock)(hat:a'.ownBlock=a.ownBlock∨a'.ownBlock=some X.heap.size):
  WS w (w5.setCell ⟨w.heap.size+3,0,none⟩ a') nsl vsl x0 x1 x2 x3 a' k zs b m ys∧w5.heap[w.heap.size+3]?=some (Zbr a b):=by
 have lt:=h.lt
 have szX:=hX.size
 have sz5:=hg.size
 have lta:∀g,a.ownBlock=some g→w.heap.size+4≤g∧g<W.heap.size:=fun g e=>h.on.lt g e
 have ltb:∀g,b.ownBlock=some g→w.heap.size+4≤g∧g<W.heap.size:=fun g e=>h.ov.lt g e
 have lta':∀g,a'.ownBlock=some g→w.heap.size+4≤g:=fun g e=>(own5.lt g e).1
 have b5:∀g,g<W.heap.size→some g≠a.ownBlock→w5.heap[g]?=W.heap[g]?:=fun g h1 h2=>by
  rw[hg.block g (by omega) h2,hX.block g h1]
 have hS:∀g,g≠w.heap.size+3→(w5.setCell ⟨w.heap.size+3,0,none⟩ a').heap[g]?=w5.heap[g]?:=fun g hne=>Below.heap_setCell w5 ⟨w.heap.size+3,0,none⟩ _ g hne
 have nn:∀g,g<w.heap.size+4→some g≠a.ownBlock:=fun g h1 e=>by have:=(lta g e.symm).1;omega
 have v3:w5.heap[w.heap.size+3]?=some (Zbr a b):=by rw[b5 _ lt (nn _ (by omega))];exact h.b3
 refine⟨⟨?_,?_,?_,?_,?_,?_,?_,?_⟩,v3⟩
 ·refine Below.setCell (p:=⟨w.heap.size+3,0,none⟩) ?_ (by show w.heap.size≤w.heap.size+3;omega) _
  refine⟨?_,?_,?_,?_,?_⟩
  ·rw[hg.os];exact hX.os.trans h.hb.os
  ·rw[hg.tape];exact hX.tape.trans h.hb.tape
  ·rw[hg.output];exact hX.output.trans h.hb.output
  ·have:=h.hb.size;omega
  ·intro g h1
   rw[b5 g (by omega) (nn g (by omega))]
   exact h.hb.block g h1
 ·rw[hS _ (by omega),b5 _ (by omega) (nn _ (by omega))];exact h.b0
 ·rw[hS _ (by omega),b5 _ (by omega) (nn _ (by omega))];exact h.b1
 ·rw[hS _ (by omega),b5 _ (by omega) (nn _ (by omega))];exact h.b2
 ·rw[Zau v3];simp
 ·exact Zay own5 fun g h1=>hS g (by have:=lta' g h1;omega)
 ·exact Zay h.ov fun g h1=>by rw[hS g (by have:=(ltb g h1).1;omega),b5 g (ltb g h1).2 (fun e=>h.ne g e.symm h1)]
 ·intro g h1 h2
  rcases hat with e | e
  ·exact h.ne g (by rw[←e];exact h1) h2
  ·have:=(ltb g h2).2
   rw[e] at h1
   simp at h1
   omega
theorem WS.vals (h:WS w W nsl vsl x0 x1 x2 x3 a n xs b m ys)(hX:Below W.heap.size W X)(own5:w5.ownsRow (w.heap.size+4) 46 4 b' k zs)(hg:X.grownBy w5 b.ownBlock)(hat:b'.ownBlock=b.ownBlock∨b'.ownBlock=some X.heap.size):
  WS w (w5.setCell ⟨w.heap.size+3,1,none⟩ b') nsl vsl x0 x1 x2 x3 a n xs b' k zs∧w5.heap[w.heap.size+3]?=some (Zbr a b):=by
 have lt:=h.lt
 have szX:=hX.size
 have sz5:=hg.size
 have lta:∀g,a.ownBlock=some g→w.heap.size+4≤g∧g<W.heap.size:=fun g e=>h.on.lt g e
 have ltb:∀g,b.ownBlock=some g→w.heap.size+4≤g∧g<W.heap.size:=fun g e=>h.ov.lt g e
 have ltb':∀g,b'.ownBlock=some g→w.heap.size+4≤g:=fun g e=>(own5.lt g e).1
 have b5:∀g,g<W.heap.size→some g≠b.ownBlock→w5.heap[g]?=W.heap[g]?:=fun g h1 h2=>by
  rw[hg.block g (by omega) h2,hX.block g h1]
 have hS:∀g,g≠w.heap.size+3→(w5.setCell ⟨w.heap.size+3,1,none⟩ b').heap[g]?=w5.heap[g]?:=fun g hne=>Below.heap_setCell w5 ⟨w.heap.size+3,1,none⟩ _ g hne
 have nn:∀g,g<w.heap.size+4→some g≠b.ownBlock:=fun g h1 e=>by have:=(ltb g e.symm).1;omega
 have v3:w5.heap[w.heap.size+3]?=some (Zbr a b):=by rw[b5 _ lt (nn _ (by omega))];exact h.b3
 refine⟨⟨?_,?_,?_,?_,?_,?_,?_,?_⟩,v3⟩
 ·refine Below.setCell (p:=⟨w.heap.size+3,1,none⟩) ?_ (by show w.heap.size≤w.heap.size+3;omega) _
  refine⟨?_,?_,?_,?_,?_⟩
  ·rw[hg.os];exact hX.os.trans h.hb.os
  ·rw[hg.tape];exact hX.tape.trans h.hb.tape
  ·rw[hg.output];exact hX.output.trans h.hb.output
  ·have:=h.hb.size;omega
  ·intro g h1
   rw[b5 g (by omega) (nn g (by omega))]
   exact h.hb.block g h1
 ·rw[hS _ (by omega),b5 _ (by omega) (nn _ (by omega))];exact h.b0
 ·rw[hS _ (by omega),b5 _ (by omega) (nn _ (by omega))];exact h.b1
 ·rw[hS _ (by omega),b5 _ (by omega) (nn _ (by omega))];exact h.b2
 ·rw[Zau v3];simp
 ·exact Zay h.on fun g h1=>by rw[hS g (by have:=(lta g h1).1;omega),b5 g (lta g h1).2 (fun e=>h.ne g h1 e.symm)]
 ·exact Zay own5 fun g h1=>hS g (by have:=ltb' g h1;omega)
 ·intro g h1 h2
  rcases hat with e | e
  ·exact h.ne g h1 (by rw[←e];exact h2)
  ·have:=(lta g h1).2
   rw[e] at h2
   simp at h2
   omega
theorem WS.start (w:World)(nsl vsl x0 x1 x2 x3:Value):WS w ((((w.alloc (Zbr nsl vsl)).alloc (Zce x0 x1 x2 x3)).alloc (Zbr (.slice none 0 0) (.slice none 0 0))).alloc (Zbr (.slice none 0 0) (.slice none 0 0))) nsl vsl x0 x1 x2 x3 (.slice none 0 0) 0 [] (.slice none 0 0) 0 []:=by
 refine⟨?_,?_,?_,?_,?_,⟨rfl,Or.inl ⟨rfl,rfl⟩⟩,⟨rfl,Or.inl ⟨rfl,rfl⟩⟩,fun g h=>by simp[Value.ownBlock] at h⟩
 ·exact ((below2 w _ _).alloc (by simp;omega) _).alloc (by simp;omega) _
 ·rw[Za0 _ _ _ (by simp;omega),Za0 _ _ _ (by simp;omega),Za0 _ _ _ (by simp)];exact heap_alloc_new _ _
 ·rw[Za0 _ _ _ (by simp),Za0 _ _ _ (by simp)]
  have:=heap_alloc_new (w.alloc (Zbr nsl vsl)) (Zce x0 x1 x2 x3)
  simpa using this
 ·rw[Za0 _ _ _ (by simp)]
  have:=heap_alloc_new ((w.alloc (Zbr nsl vsl)).alloc (Zce x0 x1 x2 x3)) (Zbr (.slice none 0 0) (.slice none 0 0))
  simpa using this
 ·have:=heap_alloc_new (((w.alloc (Zbr nsl vsl)).alloc (Zce x0 x1 x2 x3)).alloc (Zbr (.slice none 0 0) (.slice none 0 0))) (Zbr (.slice none 0 0) (.slice none 0 0))
  simpa using this
end
theorem strL_one (bs:List ByteArray):∀u∈strL bs,u.oneCell'=true:=by
 intro u hu
 simp only[strL,List.mem_map] at hu
 obtain⟨b,_,rfl⟩:=hu
 rfl
theorem WS.done {w W:World}{D:Nat→Prop}{nsl vsl x0 x1 x2 x3 a b:Value}{ns:List ByteArray}{vs:List PV}{cs:List Value}(h:WS w W nsl vsl x0 x1 x2 x3 a ns.length (strL ns) b vs.length cs)(hl:ns.length=vs.length)(hD:∀g,w.heap.size≤g→D g)(hv:RVs w D vs cs):
  Below w.heap.size w ((W.setCell ⟨w.heap.size+2,0,none⟩ a).setCell ⟨w.heap.size+2,1,none⟩ b)∧RS ((W.setCell ⟨w.heap.size+2,0,none⟩ a).setCell ⟨w.heap.size+2,1,none⟩ b) D ns vs (.agg #[a,b]):=by
 have hS:∀g,g≠w.heap.size+2→((W.setCell ⟨w.heap.size+2,0,none⟩ a).setCell ⟨w.heap.size+2,1,none⟩ b).heap[g]?=W.heap[g]?:=fun g hne=>by
  rw[Below.heap_setCell _ ⟨w.heap.size+2,1,none⟩ _ g hne,Below.heap_setCell _ ⟨w.heap.size+2,0,none⟩ _ g hne]
 have hb:Below w.heap.size w ((W.setCell ⟨w.heap.size+2,0,none⟩ a).setCell ⟨w.heap.size+2,1,none⟩ b) :=
  (h.hb.setCell (p:=⟨w.heap.size+2,0,none⟩) (by show w.heap.size≤w.heap.size+2;omega) _).setCell (p:=⟨w.heap.size+2,1,none⟩) (by show w.heap.size≤w.heap.size+2;omega) _
 refine⟨hb,a,b,cs,rfl,?_,?_,hv.below hb,hl⟩
 ·refine ((Zar.of_row (Zao.of_owns h.on)).keep fun k hk _=>hS k (by have:w.heap.size+4≤k:=hk;omega)).weaken fun k hk=>hD k ?_
  have:w.heap.size+4≤k:=hk.1
  omega
 ·refine ((Zar.of_row (Zao.of_owns h.ov)).keep fun k hk _=>hS k (by have:w.heap.size+4≤k:=hk;omega)).weaken fun k hk=>hD k ?_
  have:w.heap.size+4≤k:=hk.1
  omega
theorem Ze5 (w:World)(p:Addr)(u:Value):(w.setCell p u).heap.size=w.heap.size:=by simp[World.setCell]
theorem Zt9 (w:World)(p:Addr)(u x:Value)(t:TypeId):∀j v,[x][j]?=some v→((w.setCell p u).alloc (.cells #[x] t)).cell? ((⟨w.heap.size,0,none⟩:Addr).add j)=some v:=by
 have:=cell_one_new (w.setCell p u) x t
 rw[Ze5] at this
 exact this
theorem Zr0 (w:World)(p:Addr)(u x1 x2 x3 x4:Value)(t:TypeId):∀j v,[x1,x2,x3,x4][j]?=some v→((w.setCell p u).alloc (.cells #[x1,x2,x3,x4] t)).cell? ((⟨w.heap.size,0,none⟩:Addr).add j)=some v:=by
 have:=Ziw (w.setCell p u) x1 x2 x3 x4 t
 rw[Ze5] at this
 exact this
theorem Zwa (D:Nat→Prop)(ns:List ByteArray)(vs:List PV)(x y:Value)(nb:ByteArray)(v:PV)(w:World)(h:RS w D ns vs x)(hv:RV w D v y)(hl:ns.length≤100000)(hD:∀g,w.heap.size≤g→D g):
  Calls prog 124 #[x,.string nb,y] w fun e w'=>(∃x',e=.returned x'∧RS w' D (ns++[nb]) (vs++[v]) x')∧Below w.heap.size w w':=by
 obtain⟨nsl,vsl,cs,rfl,h2,h3,h4,h5⟩:=h
 obtain⟨kk,zz,ss,xad,xn,xc,rfl,hkk⟩:=hv.parts
 obtain⟨nad,ncap,rfl⟩:=h2.slice
 obtain⟨vad,vcap,rfl⟩:=h3.slice
 have ws0:=WS.start w (.slice nad ns.length ncap) (.slice vad vs.length vcap) (.int .u8 (kk:Int)) (.int .i64 zz) (.string ss) (.slice xad xn xc)
 have hone:=h4.one_cell
 have hall:=(RVs.one hv).append h4
 have hvl:vs.length≤100000:=by omega
 have H5:Aside (ns.length=vs.length):=h5
 clear h5
 go_enter func124,ntmps124
 go_wp2_with (first
  |(at_builtin;obtain⟨i0,hi,hz0,hz1,hz2⟩:=info_parts Tryz.infoVal;refine wpList_append_own_at _ rfl _ _ 44 rfl (w.heap.size+4) 46 i0 _ 4 56 underlying44 hi hz0 hz1 hz2 rfl (by decide) _ _ _ rfl (ws3.1.ov.alloc _) ⟨w3.heap.size,0,none⟩ 1 1 [.int .u8 (kk:Int),.int .i64 zz,.string ss,.slice xad xn xc] rfl rfl (Zr0 _ _ _ _ _ _ _ _) (fun x hx=>by simp at hx;rcases hx with h | h | h | h<;>(subst h;rfl)) (by unfold maxLen;omega) (by omega) (by simp;omega) ?_;intro a4 w4 own4 gr4 nil4 at4;clear hi hz0 hz1 hz2;obtain⟨dad,dcap,ha4⟩:=Zaf own4;subst ha4;have ws4:=ws3.1.vals (Zab _ _) own4 gr4 at4;obtain⟨h0,h1,hf⟩:=Zd2 ws4.2;have lt4:=ws4.1.lt;rw[Ze5] at lt4;obtain⟨k0,k1,kf⟩:=Zd2 ws4.1.b2)
  |(at_builtin;obtain⟨i0,hi,hz0,hz1,hz2⟩:=info_parts Tryz.infoVal;refine Zbs rfl _ _ 44 rfl (w.heap.size+4) 46 i0 _ 4 56 underlying44 hi hz0 hz1 hz2 rfl (by decide) _ _ _ rfl ws2.1.ov _ _ _ rfl s2 hone (by unfold maxLen;omega) (by omega) ws2.1.lt ?_;intro a3 w3 own3 gr3 at3;clear hi hz0 hz1 hz2;simp only[Nat.zero_add,List.nil_append] at own3;obtain⟨cad,ccap,ha3⟩:=Zaf own3;subst ha3;have ws3:=ws2.1.vals (Below.refl _ _) own3 gr3 at3;obtain⟨f0,f1,ff⟩:=Zd2 ws3.2;have lt3:=ws3.1.lt;rw[Ze5] at lt3;obtain⟨g0,g1,g2,g3,gf⟩:=Zak ws3.1.b1)
  |(at_builtin;obtain⟨i0,hi,hz0,hz1,hz2⟩:=info_parts Tryz.infoStr;refine wpList_append_own_at _ rfl _ _ 30 rfl (w.heap.size+4) 9 i0 _ 1 16 underlying30 hi hz0 hz1 hz2 rfl (by decide) _ _ _ rfl (ws1.1.on.alloc _) ⟨w1.heap.size,0,none⟩ 1 1 [.string nb] rfl rfl (Zt9 _ _ _ _ _) (fun x hx=>by simp at hx;subst hx;rfl) (by unfold maxLen;omega) (by omega) (by simp;omega) ?_;intro a2 w2 own2 gr2 nil2 at2;clear hi hz0 hz1 hz2;obtain⟨bad,bcap,ha2⟩:=Zaf own2;subst ha2;have ws2:=ws1.1.names (Zab _ _) own2 gr2 at2;obtain⟨d0,d1,df⟩:=Zd2 ws2.2;have lt2:=ws2.1.lt;rw[Ze5] at lt2;have s2:=h3.below ws2.1.hb;obtain⟨e0,e1,ef⟩:=Zd2 ws2.1.b0)
  |(at_builtin;obtain⟨i0,hi,hz0,hz1,hz2⟩:=info_parts Tryz.infoStr;refine Zbs rfl _ _ 30 rfl (w.heap.size+4) 9 i0 _ 1 16 underlying30 hi hz0 hz1 hz2 rfl (by decide) _ _ _ rfl ws0.on _ _ _ rfl (h2.below ws0.hb) (strL_one ns) (by unfold maxLen;omega) (by omega) ws0.lt ?_;intro a1 w1 own1 gr1 at1;clear hi hz0 hz1 hz2;simp only[Nat.zero_add,List.nil_append] at own1;obtain⟨aad,acap,ha1⟩:=Zaf own1;subst ha1;have ws1:=ws0.names (Below.refl _ _) own1 gr1 at1;obtain⟨c0,c1,cf⟩:=Zd2 ws1.2;have lt1:=ws1.1.lt;rw[Ze5] at lt1))
 have ws5:WS w (w4.setCell ⟨w.heap.size+3,1,none⟩ (.slice dad (vs.length+1) dcap)) (.slice nad ns.length ncap) (.slice vad vs.length vcap) (.int .u8 (kk:Int)) (.int .i64 zz) (.string ss) (.slice xad xn xc) (.slice bad (ns.length+1) bcap) (ns++[nb]).length (strL (ns++[nb])) (.slice dad (vs.length+1) dcap) (vs++[v]).length (cs++[.int .u8 (kk:Int),.int .i64 zz,.string ss,.slice xad xn xc]):=by
  have:=ws4.1
  simpa[strL] using this
 have fin:=ws5.done (D:=D) (by have:=H5.out;simp;omega) hD hall
 refine bodyPost_ret (v:=.agg #[.slice bad (ns.length+1) bcap,.slice dad (vs.length+1) dcap]) (by simp[results,results124,go_sem,k0,k1]) rfl ⟨⟨_,rfl,fin.2⟩,fin.1⟩
def Zfk (D:Nat→Prop)(o:Option PV)(w:World)(e:Ending)(w':World):Prop :=
 Below w.heap.size w w'∧match o with
 | none=>∃(k z:Int) (s:ByteArray) (ad:Option Addr) (n c:Nat),e=.returned (.tuple #[.agg #[.int .u8 k,.int .i64 z,.string s,.slice ad n c],.bool false])
 | some v=>∃x:Value,e=.returned (.tuple #[x,.bool true])∧RV w' D v x
theorem Zbm {D:Nat→Prop}{o:Option PV}{w w':World}{k z:Int}{s:ByteArray}{ad:Option Addr}{n c:Nat}(ho:o=none)(hb:Below w.heap.size w w'):Zfk D o w (.returned (.tuple #[.agg #[.int .u8 k,.int .i64 z,.string s,.slice ad n c],.bool false])) w':=by
 subst ho
 exact⟨hb,_,_,_,_,_,_,rfl⟩
theorem Zd5 {D:Nat→Prop}{o:Option PV}{w w':World}{v:PV}{x:Value}(ho:o=some v)(hb:Below w.heap.size w w')(hv:RV w' D v x):Zfk D o w (.returned (.tuple #[x,.bool true])) w':=by
 subst ho
 exact⟨hb,_,rfl,hv⟩
def Zbe:PV→Nat
 | .num _=>110
 | .txt _=>116
 | .lst _=>108
def Zd1:PV→Int
 | .num z=>z
 | _=>0
def Zxt:PV→List UInt8
 | .txt b=>b
 | _=>[]
def Za7:PV→List PV
 | .lst l=>l
 | _=>[]
theorem RV.fields {w:World}{D:Nat→Prop}{v:PV}{x:Value}(h:RV w D v x):∃(s:ByteArray) (ad:Option Addr) (cap:Nat) (cs:List Value),x=.agg #[.int .u8 (Zbe v:Int),.int .i64 (Zd1 v),.string s,.slice ad (Za7 v).length cap]∧s.data.toList=Zxt v∧Zar w D 46 4 (.slice ad (Za7 v).length cap) (Za7 v).length cs∧RVs w D (Za7 v) cs:=by
 cases v with
 | num z=>rw[RV] at h;exact⟨_,none,0,[],h,rfl,⟨rfl,Or.inl ⟨⟨_,_,rfl⟩,rfl⟩⟩,by simp[Za7,RVs]⟩
 | txt b=>rw[RV] at h;obtain⟨s,hs,h⟩:=h;exact⟨s,none,0,[],h,hs,⟨rfl,Or.inl ⟨⟨_,_,rfl⟩,rfl⟩⟩,by simp[Za7,RVs]⟩
 | lst l =>
  rw[RV] at h
  obtain⟨sl,cs,h1,h2,h3⟩:=h
  obtain⟨ad,cap,rfl⟩:=h2.slice
  exact⟨_,ad,cap,cs,h1,rfl,h2,h3⟩
theorem Zb0 {w:World}{D:Nat→Prop}{g o n cap:Nat}{cs:List Value}{l:List PV}(hseg:Zar w D 46 4 (.slice (some ⟨g,o,none⟩) n cap) n cs)(hn:l.length=n)(hvs:RVs w D l cs)(i:Nat)(hi:i<l.length):
  ∃(s:ByteArray) (ad:Option Addr) (c:Nat) (ds:List Value),w.cell? ⟨g,o+i*4,none⟩=some (.int .u8 (Zbe l[i]:Int))∧w.cell? ⟨g,o+i*4+1,none⟩=some (.int .i64 (Zd1 l[i]))∧w.cell? ⟨g,o+i*4+2,none⟩=some (.string s)∧w.cell? ⟨g,o+i*4+3,none⟩=some (.slice ad (Za7 l[i]).length c)∧s.data.toList=Zxt l[i]∧Zar w D 46 4 (.slice ad (Za7 l[i]).length c) (Za7 l[i]).length ds∧RVs w D (Za7 l[i]) ds∧RV w D l[i] (.agg #[.int .u8 (Zbe l[i]:Int),.int .i64 (Zd1 l[i]),.string s,.slice ad (Za7 l[i]).length c]):=by
 obtain⟨g',o',cap',hsv,_,hc1,hc2,hcell⟩:=hseg.cell (by omega)
 simp only[Value.slice.injEq,Option.some.injEq,Addr.mk.injEq,and_true,true_and] at hsv
 obtain⟨⟨rfl,rfl⟩,rfl⟩:=hsv
 obtain⟨va,vb,vc,vd,e0,e1,e2,e3,hrv⟩:=hvs.at i hi
 obtain⟨s,ad,c,ds,ep,f1,f2,f3⟩:=hrv.fields
 simp only[Value.agg.injEq,Array.mk.injEq,List.cons.injEq,and_true] at ep
 obtain⟨rfl,rfl,rfl,rfl⟩:=ep
 refine⟨s,ad,c,ds,?_,?_,?_,?_,f1,f2,f3,hrv⟩
 ·rw[hcell _ (by omega)];exact e0
 ·rw[Nat.add_assoc,hcell _ (by omega)];exact e1
 ·rw[Nat.add_assoc,hcell _ (by omega)];exact e2
 ·rw[Nat.add_assoc,hcell _ (by omega)];exact e3
theorem res3 {w w2:World}{o1 o2:Obj}(hb:Below (((w.alloc Zaz).alloc o1).alloc o2).heap.size (((w.alloc Zaz).alloc o1).alloc o2) w2):(w2.cell? ⟨w.heap.size,0,none⟩=some (.int .u8 0)∧w2.cell? ⟨w.heap.size,1,none⟩=some (.int .i64 0)∧w2.cell? ⟨w.heap.size,2,none⟩=some (.string ⟨#[]⟩)∧w2.cell? ⟨w.heap.size,3,none⟩=some (.slice none 0 0))∧(∀j,w2.frozen? ⟨w.heap.size,j,none⟩=false)∧w.heap.size<w2.heap.size:=by
 have h:w2.heap[w.heap.size]?=some Zaz:=by
  rw[hb.block _ (by simp;omega),Za0 _ _ _ (by simp;omega),Za0 _ _ _ (by simp)];exact heap_alloc_new _ _
 obtain⟨a,b,c,d,e⟩:=Zak h
 exact⟨⟨a,b,c,d⟩,e,Zag h⟩
theorem Zxz (D:Nat→Prop)(a b:PV)(sl:Value)(cs:List Value)(w:World)(hseg:Zar w D 46 4 sl 2 cs)(hvs:RVs w D [a,b] cs):
  Calls prog 206 #[.string ⟨#[97,100,100]⟩,sl] w (Zfk D (Za1 [97,100,100] [a,b]) w):=by
 obtain⟨g,o,cap,rfl,hDg,hc1,hc2,hcx⟩:=hseg.cell (by omega)
 clear hcx
 obtain⟨sa,aad,ac,ads,a0,a1,a2,a3,aS,aG,aV,aR⟩:=Zb0 hseg rfl hvs 0 (by simp)
 obtain⟨sb,bad,bc,bds,b0,b1,b2,b3,bS,bG,bV,bR⟩:=Zb0 hseg rfl hvs 1 (by simp)
 simp only[List.getElem_cons_zero,List.getElem_cons_succ,Nat.zero_mul,Nat.add_zero,Nat.one_mul] at a0 a1 a2 a3 b0 b1 b2 b3 aS aG aV aR bS bG bV bR
 have lg:=Zae a0
 simp only at lg
 have n0:w.heap.size≠g:=by omega
 have n1:w.heap.size+1≠g:=by omega
 have n2:w.heap.size+2≠g:=by omega
 have n3:w.heap.size+3≠g:=by omega
 unfold maxLen at hc2
 clear aS aG aV aR bS bG bV bR hvs hseg hDg
 cases a with
 | num x =>
  cases b with
  | num y =>
   simp only[Zbe,Zd1,Za7,List.length_nil] at a0 a1 a3 b0 b1 b3
   go_enter func206,ntmps206
   go_wp2
   exact bodyPost_ret (v:=.tuple #[.agg #[.int .u8 110,.int .i64 (wrap64 (x+y)),.string ⟨#[]⟩,.slice none 0 0],.bool true]) (by simp[results,results206,go_sem]) rfl (Zd5 (v:=.num (wrap64 (x+y))) rfl ((below2 w _ _).alloc (by simp;omega) _) (by rw[RV]))
  | txt y =>
   simp only[Zbe,Zd1] at a0 a1 b0 b1
   go_enter func206,ntmps206
   go_wp2
   exact bodyPost_ret (v:=.tuple #[.agg #[.int .u8 0,.int .i64 0,.string ⟨#[]⟩,.slice none 0 0],.bool false]) (by simp[results,results206,go_sem]) rfl (Zbm rfl ((below2 w _ _).alloc (by simp;omega) _))
  | lst y =>
   simp only[Zbe,Zd1] at a0 a1 b0 b1
   go_enter func206,ntmps206
   go_wp2
   exact bodyPost_ret (v:=.tuple #[.agg #[.int .u8 0,.int .i64 0,.string ⟨#[]⟩,.slice none 0 0],.bool false]) (by simp[results,results206,go_sem]) rfl (Zbm rfl ((below2 w _ _).alloc (by simp;omega) _))
 | txt x =>
  simp only[Zbe,Zd1] at a0 a1
  go_enter func206,ntmps206
  go_wp2
  exact bodyPost_ret (v:=.tuple #[.agg #[.int .u8 0,.int .i64 0,.string ⟨#[]⟩,.slice none 0 0],.bool false]) (by simp[results,results206,go_sem]) rfl (Zbm (by cases b<;>rfl) ((below2 w _ _).alloc (by simp;omega) _))
 | lst x =>
  simp only[Zbe,Zd1] at a0 a1
  go_enter func206,ntmps206
  go_wp2
  exact bodyPost_ret (v:=.tuple #[.agg #[.int .u8 0,.int .i64 0,.string ⟨#[]⟩,.slice none 0 0],.bool false]) (by simp[results,results206,go_sem]) rfl (Zbm (by cases b<;>rfl) ((below2 w _ _).alloc (by simp;omega) _))
theorem Zxu (D:Nat→Prop)(a b:PV)(sl:Value)(cs:List Value)(w:World)(hseg:Zar w D 46 4 sl 2 cs)(hvs:RVs w D [a,b] cs):
  Calls prog 206 #[.string ⟨#[115,117,98]⟩,sl] w (Zfk D (Za1 [115,117,98] [a,b]) w):=by
 obtain⟨g,o,cap,rfl,hDg,hc1,hc2,hcx⟩:=hseg.cell (by omega)
 clear hcx
 obtain⟨sa,aad,ac,ads,a0,a1,a2,a3,aS,aG,aV,aR⟩:=Zb0 hseg rfl hvs 0 (by simp)
 obtain⟨sb,bad,bc,bds,b0,b1,b2,b3,bS,bG,bV,bR⟩:=Zb0 hseg rfl hvs 1 (by simp)
 simp only[List.getElem_cons_zero,List.getElem_cons_succ,Nat.zero_mul,Nat.add_zero,Nat.one_mul] at a0 a1 a2 a3 b0 b1 b2 b3 aS aG aV aR bS bG bV bR
 have lg:=Zae a0
 simp only at lg
 have n0:w.heap.size≠g:=by omega
 have n1:w.heap.size+1≠g:=by omega
 have n2:w.heap.size+2≠g:=by omega
 have n3:w.heap.size+3≠g:=by omega
 unfold maxLen at hc2
 clear aS aG aV aR bS bG bV bR hvs hseg hDg
 cases a with
 | num x =>
  cases b with
  | num y =>
   simp only[Zbe,Zd1,Za7,List.length_nil] at a0 a1 a3 b0 b1 b3
   go_enter func206,ntmps206
   go_wp2
   exact bodyPost_ret (v:=.tuple #[.agg #[.int .u8 110,.int .i64 (wrap64 (x-y)),.string ⟨#[]⟩,.slice none 0 0],.bool true]) (by simp[results,results206,go_sem]) rfl (Zd5 (v:=.num (wrap64 (x-y))) rfl ((below2 w _ _).alloc (by simp;omega) _) (by rw[RV]))
  | txt y =>
   simp only[Zbe,Zd1] at a0 a1 b0 b1
   go_enter func206,ntmps206
   go_wp2
   exact bodyPost_ret (v:=.tuple #[.agg #[.int .u8 0,.int .i64 0,.string ⟨#[]⟩,.slice none 0 0],.bool false]) (by simp[results,results206,go_sem]) rfl (Zbm rfl ((below2 w _ _).alloc (by simp;omega) _))
  | lst y =>
   simp only[Zbe,Zd1] at a0 a1 b0 b1
   go_enter func206,ntmps206
   go_wp2
   exact bodyPost_ret (v:=.tuple #[.agg #[.int .u8 0,.int .i64 0,.string ⟨#[]⟩,.slice none 0 0],.bool false]) (by simp[results,results206,go_sem]) rfl (Zbm rfl ((below2 w _ _).alloc (by simp;omega) _))
 | txt x =>
  simp only[Zbe,Zd1] at a0 a1
  go_enter func206,ntmps206
  go_wp2
  exact bodyPost_ret (v:=.tuple #[.agg #[.int .u8 0,.int .i64 0,.string ⟨#[]⟩,.slice none 0 0],.bool false]) (by simp[results,results206,go_sem]) rfl (Zbm (by cases b<;>rfl) ((below2 w _ _).alloc (by simp;omega) _))
 | lst x =>
  simp only[Zbe,Zd1] at a0 a1
  go_enter func206,ntmps206
  go_wp2
  exact bodyPost_ret (v:=.tuple #[.agg #[.int .u8 0,.int .i64 0,.string ⟨#[]⟩,.slice none 0 0],.bool false]) (by simp[results,results206,go_sem]) rfl (Zbm (by cases b<;>rfl) ((below2 w _ _).alloc (by simp;omega) _))
theorem Zxw (D:Nat→Prop)(a b:PV)(sl:Value)(cs:List Value)(w:World)(hseg:Zar w D 46 4 sl 2 cs)(hvs:RVs w D [a,b] cs):
  Calls prog 206 #[.string ⟨#[109,117,108]⟩,sl] w (Zfk D (Za1 [109,117,108] [a,b]) w):=by
 obtain⟨g,o,cap,rfl,hDg,hc1,hc2,hcx⟩:=hseg.cell (by omega)
 clear hcx
 obtain⟨sa,aad,ac,ads,a0,a1,a2,a3,aS,aG,aV,aR⟩:=Zb0 hseg rfl hvs 0 (by simp)
 obtain⟨sb,bad,bc,bds,b0,b1,b2,b3,bS,bG,bV,bR⟩:=Zb0 hseg rfl hvs 1 (by simp)
 simp only[List.getElem_cons_zero,List.getElem_cons_succ,Nat.zero_mul,Nat.add_zero,Nat.one_mul] at a0 a1 a2 a3 b0 b1 b2 b3 aS aG aV aR bS bG bV bR
 have lg:=Zae a0
 simp only at lg
 have n0:w.heap.size≠g:=by omega
 have n1:w.heap.size+1≠g:=by omega
 have n2:w.heap.size+2≠g:=by omega
 have n3:w.heap.size+3≠g:=by omega
 unfold maxLen at hc2
 clear aS aG aV aR bS bG bV bR hvs hseg hDg
 cases a with
 | num x =>
  cases b with
  | num y =>
   simp only[Zbe,Zd1,Za7,List.length_nil] at a0 a1 a3 b0 b1 b3
   go_enter func206,ntmps206
   go_wp2
   exact bodyPost_ret (v:=.tuple #[.agg #[.int .u8 110,.int .i64 (wrap64 (x*y)),.string ⟨#[]⟩,.slice none 0 0],.bool true]) (by simp[results,results206,go_sem]) rfl (Zd5 (v:=.num (wrap64 (x*y))) rfl ((below2 w _ _).alloc (by simp;omega) _) (by rw[RV]))
  | txt y =>
   simp only[Zbe,Zd1] at a0 a1 b0 b1
   go_enter func206,ntmps206
   go_wp2
   exact bodyPost_ret (v:=.tuple #[.agg #[.int .u8 0,.int .i64 0,.string ⟨#[]⟩,.slice none 0 0],.bool false]) (by simp[results,results206,go_sem]) rfl (Zbm rfl ((below2 w _ _).alloc (by simp;omega) _))
  | lst y =>
   simp only[Zbe,Zd1] at a0 a1 b0 b1
   go_enter func206,ntmps206
   go_wp2
   exact bodyPost_ret (v:=.tuple #[.agg #[.int .u8 0,.int .i64 0,.string ⟨#[]⟩,.slice none 0 0],.bool false]) (by simp[results,results206,go_sem]) rfl (Zbm rfl ((below2 w _ _).alloc (by simp;omega) _))
 | txt x =>
  simp only[Zbe,Zd1] at a0 a1
  go_enter func206,ntmps206
  go_wp2
  exact bodyPost_ret (v:=.tuple #[.agg #[.int .u8 0,.int .i64 0,.string ⟨#[]⟩,.slice none 0 0],.bool false]) (by simp[results,results206,go_sem]) rfl (Zbm (by cases b<;>rfl) ((below2 w _ _).alloc (by simp;omega) _))
 | lst x =>
  simp only[Zbe,Zd1] at a0 a1
  go_enter func206,ntmps206
  go_wp2
  exact bodyPost_ret (v:=.tuple #[.agg #[.int .u8 0,.int .i64 0,.string ⟨#[]⟩,.slice none 0 0],.bool false]) (by simp[results,results206,go_sem]) rfl (Zbm (by cases b<;>rfl) ((below2 w _ _).alloc (by simp;omega) _))
theorem Zuw (D:Nat→Prop)(a b:PV)(sl:Value)(cs:List Value)(w:World)(hseg:Zar w D 46 4 sl 2 cs)(hvs:RVs w D [a,b] cs):
  Calls prog 206 #[.string ⟨#[108,101,115,115]⟩,sl] w (Zfk D (Za1 [108,101,115,115] [a,b]) w):=by
 obtain⟨g,o,cap,rfl,hDg,hc1,hc2,hcx⟩:=hseg.cell (by omega)
 clear hcx
 obtain⟨sa,aad,ac,ads,a0,a1,a2,a3,aS,aG,aV,aR⟩:=Zb0 hseg rfl hvs 0 (by simp)
 obtain⟨sb,bad,bc,bds,b0,b1,b2,b3,bS,bG,bV,bR⟩:=Zb0 hseg rfl hvs 1 (by simp)
 simp only[List.getElem_cons_zero,List.getElem_cons_succ,Nat.zero_mul,Nat.add_zero,Nat.one_mul] at a0 a1 a2 a3 b0 b1 b2 b3 aS aG aV aR bS bG bV bR
 have lg:=Zae a0
 simp only at lg
 have n0:w.heap.size≠g:=by omega
 have n1:w.heap.size+1≠g:=by omega
 have n2:w.heap.size+2≠g:=by omega
 have n3:w.heap.size+3≠g:=by omega
 unfold maxLen at hc2
 clear aS aG aV aR bS bG bV bR hvs hseg hDg
 cases a with
 | num x =>
  cases b with
  | num y =>
   simp only[Zbe,Zd1,Za7,List.length_nil] at a0 a1 a3 b0 b1 b3
   by_cases hxy:x<y
   ·have hres:Za1 [108,101,115,115] [.num x,.num y]=some (.num 1):=by simp[Za1,op2,Zyi,Z3m,hxy]
    rw[hres]
    clear hres
    go_enter func206,ntmps206
    go_wp2_with (go_at_call 246;refine (Zr3 true _).mono ?_;rintro e w2 ⟨rfl,hb2⟩;obtain⟨⟨q0,q1,q2,q3⟩,qf,ll⟩:=res3 hb2)
    exact bodyPost_ret (v:=.tuple #[.agg #[.int .u8 110,.int .i64 1,.string ⟨#[]⟩,.slice none 0 0],.bool true]) (by simp[results,results206,go_sem,q0,q1,q2,q3]) rfl (Zd5 (v:=.num 1) rfl (Zbi (((below2 w _ _).alloc (by simp;omega) _).trans (hb2.mono (by simp;omega))) (Nat.le_refl _) (Nat.le_refl _) _ _ _ _) (by rw[RV]))
   ·have hres:Za1 [108,101,115,115] [.num x,.num y]=some (.num 0):=by simp[Za1,op2,Zyi,Z3m,hxy]
    rw[hres]
    clear hres
    go_enter func206,ntmps206
    go_wp2_with (go_at_call 246;refine (Zr3 false _).mono ?_;rintro e w2 ⟨rfl,hb2⟩;obtain⟨⟨q0,q1,q2,q3⟩,qf,ll⟩:=res3 hb2)
    exact bodyPost_ret (v:=.tuple #[.agg #[.int .u8 110,.int .i64 0,.string ⟨#[]⟩,.slice none 0 0],.bool true]) (by simp[results,results206,go_sem,q0,q1,q2,q3]) rfl (Zd5 (v:=.num 0) rfl (Zbi (((below2 w _ _).alloc (by simp;omega) _).trans (hb2.mono (by simp;omega))) (Nat.le_refl _) (Nat.le_refl _) _ _ _ _) (by rw[RV]))
  | txt y =>
   simp only[Zbe,Zd1] at a0 a1 b0 b1
   go_enter func206,ntmps206
   go_wp2
   exact bodyPost_ret (v:=.tuple #[.agg #[.int .u8 0,.int .i64 0,.string ⟨#[]⟩,.slice none 0 0],.bool false]) (by simp[results,results206,go_sem]) rfl (Zbm rfl ((below2 w _ _).alloc (by simp;omega) _))
  | lst y =>
   simp only[Zbe,Zd1] at a0 a1 b0 b1
   go_enter func206,ntmps206
   go_wp2
   exact bodyPost_ret (v:=.tuple #[.agg #[.int .u8 0,.int .i64 0,.string ⟨#[]⟩,.slice none 0 0],.bool false]) (by simp[results,results206,go_sem]) rfl (Zbm rfl ((below2 w _ _).alloc (by simp;omega) _))
 | txt x =>
  simp only[Zbe,Zd1] at a0 a1
  go_enter func206,ntmps206
  go_wp2
  exact bodyPost_ret (v:=.tuple #[.agg #[.int .u8 0,.int .i64 0,.string ⟨#[]⟩,.slice none 0 0],.bool false]) (by simp[results,results206,go_sem]) rfl (Zbm (by cases b<;>rfl) ((below2 w _ _).alloc (by simp;omega) _))
 | lst x =>
  simp only[Zbe,Zd1] at a0 a1
  go_enter func206,ntmps206
  go_wp2
  exact bodyPost_ret (v:=.tuple #[.agg #[.int .u8 0,.int .i64 0,.string ⟨#[]⟩,.slice none 0 0],.bool false]) (by simp[results,results206,go_sem]) rfl (Zbm (by cases b<;>rfl) ((below2 w _ _).alloc (by simp;omega) _))
end Go.Proofs.YtliapghpeoaonaaGreatDoor
