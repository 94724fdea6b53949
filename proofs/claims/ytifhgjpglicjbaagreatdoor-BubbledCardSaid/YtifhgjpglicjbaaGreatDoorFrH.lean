/-
  Frames, the program: keys and values apart. (Begun.)
-/
import Derived.Test.YtifhgjpglicjbaaGreatDoorFrG
set_option maxHeartbeats 4000000
set_option maxRecDepth 8000
namespace Go.Proofs.YtifhgjpglicjbaaGreatDoor
open Go.Proofs.Tryz
open Go.RowKit Go.Lib
attribute [local go_sem ↓] Go.wp_at_zero Go.wp_at_succ
inductive FltN:Value→Prop where
 | flt {f:Value} (h:FltV f):FltN f
 | inn {f:Value} (nb:ByteArray) (i:Int) (h:FltN f):FltN (.iface 124 (.agg #[.string nb,.int .i64 i,f]))
theorem pairL_step {ks:List (List UInt8)}{vs:List PV}{v:PV}{r:List PV}:pairL ks vs (v::r)=match pairV v with | none=>none | some (k,u)=>if k∈ks then none else pairL (ks++[k]) (vs++[u]) r:=by
 match v with
 | .num _=>rfl
 | .txt _=>rfl
 | .lst []=>rfl
 | .lst [.num _]=>rfl
 | .lst [.txt _]=>rfl
 | .lst [.lst _]=>rfl
 | .lst [.txt k,u]=>rfl
 | .lst [.num _,_]=>rfl
 | .lst [.lst _,_]=>rfl
 | .lst (.num _::_::_::_)=>rfl
 | .lst (.txt _::_::_::_)=>rfl
 | .lst (.lst _::_::_::_)=>rfl
def keyP (ks:List ByteArray):List (List UInt8):=ks.map (·.data.toList)
theorem hasB_mem (ks:List ByteArray)(s:ByteArray):hasB ks s=decide (s.data.toList∈keyP ks):=by
 unfold hasB keyP
 rw[Bool.eq_iff_iff]
 simp only[List.any_eq_true,decide_eq_true_eq,List.mem_map,beq_iff_eq,ByteArray.toList_eq]
 constructor
 ·rintro ⟨b,h1,h2⟩;exact⟨b,h1,h2.symm⟩
 ·rintro ⟨b,h1,h2⟩;exact⟨b,h1,h2.symm⟩
structure UL (D:Nat→Prop)(w wr:World)(kv vv:Value)(ks:List ByteArray)(vs:List PV)(cs:List Value):Prop where
 ownK:wr.ownsRow w.heap.size 9 1 kv ks.length (ks.map Value.string)
 ownV:wr.ownsRow w.heap.size 74 1 vv vs.length cs
 vals:VLs wr (fun g=>D g∧g<w.heap.size) vs cs
 ne:∀g,kv.ownBlock=some g→vv.ownBlock≠some g
 bel:Below w.heap.size w wr
theorem UL.start (D:Nat→Prop)(w:World):UL D w w (.slice none 0 0) (.slice none 0 0) [] [] []:=⟨World.ownsRow_nil _ _ _ _,World.ownsRow_nil _ _ _ _,by rw[VLs],(fun g h=>by cases h),Below.refl _ _⟩
theorem UL.below {D:Nat→Prop}{w wr w':World}{kv vv:Value}{ks:List ByteArray}{vs:List PV}{cs:List Value}(h:UL D w wr kv vv ks vs cs)(hb:Below wr.heap.size wr w'):UL D w w' kv vv ks vs cs :=
 ⟨owns_keep h.ownK fun q hq=>hb.block q (h.ownK.lt q hq).2,owns_keep h.ownV fun q hq=>hb.block q (h.ownV.lt q hq).2,h.vals.below hb,h.ne,h.bel.trans (hb.mono h.bel.size)⟩
theorem grow_base {w X w7:World}{o:Obj}{v:Option Nat}(hb:Below w.heap.size w X)(hg:(X.alloc o).grownBy w7 v)(hv:∀g,v=some g→w.heap.size≤g):Below w.heap.size w w7:=by
 have hs:=hb.size
 refine⟨hg.os.trans hb.os,hg.tape.trans hb.tape,hg.output.trans hb.output,?_,fun g hgl=>?_⟩
 ·have:=hg.size
  simp at this
  omega
 ·rw[hg.block g (by simp;omega) (fun e=>by have:=hv g e.symm;omega),alloc_old _ _ _ (by omega)]
  exact hb.block g hgl
theorem UL.key {D:Nat→Prop}{w X w7:World}{kv vv k':Value}{ks:List ByteArray}{vs:List PV}{cs:List Value}{o:Obj}{s:ByteArray}(h:UL D w X kv vv ks vs cs)(own7:w7.ownsRow w.heap.size 9 1 k' (ks.length+1) (ks.map Value.string++[.string s]))(hg:(X.alloc o).grownBy w7 kv.ownBlock)(hob:k'.ownBlock=kv.ownBlock∨k'.ownBlock=some (X.alloc o).heap.size):
  UL D w w7 k' vv (ks++[s]) vs cs:=by
 have hB:=grow_base h.bel hg fun g e=>(h.ownK.lt g e).1
 refine⟨?_,?_,?_,?_,hB⟩
 ·rw[List.length_append,List.map_append];exact own7
 ·refine owns_keep h.ownV fun q hq=>?_
  have hql:=h.ownV.lt q hq
  rw[hg.block q (by simp;omega) (fun e=>h.ne q e.symm hq)]
  exact alloc_old _ _ _ hql.2
 ·exact h.vals.map fun _ _ _ k=>(k.keep fun q hq _=>by rw[hB.block q hq.2,h.bel.block q hq.2]).weaken fun q hq=>hq.1
 ·intro g e1 e2
  rcases hob with h2 | h2
  ·rw[h2] at e1;exact h.ne g e1 e2
  ·rw[h2] at e1
   have:=(h.ownV.lt g e2).2
   simp at e1
   omega
theorem UL.val {D:Nat→Prop}{w X w7:World}{kv vv v' x:Value}{ks:List ByteArray}{vs:List PV}{cs:List Value}{o:Obj}{u:PV}(h:UL D w X kv vv ks vs cs)(hx:VL X (fun g=>D g∧g<w.heap.size) u x)(own7:w7.ownsRow w.heap.size 74 1 v' (vs.length+1) (cs++[x]))(hg:(X.alloc o).grownBy w7 vv.ownBlock)(hob:v'.ownBlock=vv.ownBlock∨v'.ownBlock=some (X.alloc o).heap.size):
  UL D w w7 kv v' ks (vs++[u]) (cs++[x]):=by
 have hB:=grow_base h.bel hg fun g e=>(h.ownV.lt g e).1
 refine⟨?_,?_,?_,?_,hB⟩
 ·refine owns_keep h.ownK fun q hq=>?_
  have hql:=h.ownK.lt q hq
  rw[hg.block q (by simp;omega) (fun e=>h.ne q hq e.symm)]
  exact alloc_old _ _ _ hql.2
 ·rw[List.length_append];exact own7
 ·exact (VLs.append (VLs.one hx) h.vals).map fun _ _ _ k=>(k.keep fun q hq _=>by rw[hB.block q hq.2,h.bel.block q hq.2]).weaken fun q hq=>hq.1
 ·intro g e1 e2
  rcases hob with h2 | h2
  ·rw[h2] at e2;exact h.ne g e1 e2
  ·rw[h2] at e2
   have:=(h.ownK.lt g e1).2
   simp at e2
   omega
def upP (D:Nat→Prop)(w:World)(o:Option (List (List UInt8)×List PV))(e:Ending)(w':World):Prop :=
 Below w.heap.size w w'∧((∃kv vv ks vs cs,o=some (keyP ks,vs)∧e=.returned (.tuple #[kv,vv,.nilIface])∧UL D w w' kv vv ks vs cs)∨(o=none∧∃f,FltN f∧e=.returned (.tuple #[.slice none 0 0,.slice none 0 0,f])))
theorem unpaired_any (D:Nat→Prop)(l:List PV)(ad:Option Addr)(cap:Nat)(cs0:List Value)(w:World)(hw:wtVs l≤600)(hseg:SegAt w D 74 1 (.slice ad l.length cap) l.length cs0)(hvs:VLs w D l cs0):
  Calls prog 192 #[.slice ad l.length cap] w (upP D w (pairL [] [] l)):=by
 obtain⟨R,hR⟩:∃R,R=pairL [] [] l:=⟨_,rfl⟩
 rw[←hR]
 have HR:Aside (R=pairL [] [] l):=hR
 clear hR
 have hll:=vlen_le l
 have hli:((l.length:Nat):Int)≤600:=by omega
 have CELL:Hid (∀j (hj:j<l.length),∃g o x,ad=some ⟨g,o,none⟩∧l.length≤cap∧cap≤9223372036854775807∧w.cell? ⟨g,o+j,none⟩=some x∧VL w (fun g=>D g∧g<w.heap.size) l[j] x∧wtV l[j]≤600):=fun j hj=>by
  obtain⟨y,hy,hvy⟩:=hvs.at j hj
  obtain⟨g,o,cp,hcap,_,hc1,hc2,hcell⟩:=hseg.cell (by omega)
  cases hcap
  unfold maxLen at hc2
  have:=hcell j (by omega)
  rw[hy] at this
  refine⟨g,o,y,rfl,hc1,by omega,this,hvy.map fun _ _ _ k=>k.keep fun _ _ _=>rfl,?_⟩
  have:=wtVs_mem (List.getElem_mem hj)
  omega
 go_enter func192,ntmps192
 go_wp2_with fail
 go_loopg [5,6,14] l.length (fun gh kv vv iv wr=>∃(j:Nat) (ks:List ByteArray) (vs:List PV) (cs:List Value),gh=l.length-j∧iv=.int .i64 ((j:Nat):Int)∧j≤l.length∧Aside (ks.length=j∧vs.length=j)∧UL D w wr kv vv ks vs cs∧Aside (R=pairL (keyP ks) vs (l.drop j)))
 case atStart =>
  exact⟨0,[],[],[],by omega,rfl,Nat.zero_le _,(show _∧_ from ⟨rfl,rfl⟩),UL.start D w,(show _=_ by rw[HR.out];rfl)⟩
 case round =>
  obtain⟨j,ks,vs,cs,rfl,rfl,hj,hvl,ul,hP⟩:=hrel
  have hb1:ks.length≤600:=by have:=hvl.out.1;omega
  have hb2:vs.length≤600:=by have:=hvl.out.2;omega
  obtain⟨ka,kc,rfl⟩:=owns_slice ul.ownK
  obtain⟨va,vc,rfl⟩:=owns_slice ul.ownV
  by_cases hjl:j<l.length
  ·obtain⟨g,o,x,rfl,hc1,hc2,c0,hvx,hwx⟩:=CELL.out j hjl
   have c1:=Below.cellv ul.bel c0
   have CK:=keyAndValue_any _ l[j] x wr (hvx.below ul.bel) hwx
   have NX:Hid (R=match pairV l[j] with | none=>none | some (k,u)=>if k∈keyP ks then none else pairL (keyP ks++[k]) (vs++[u]) (l.drop (j+1))):=by
    show _=_
    rw[hP.out,List.drop_eq_getElem_cons hjl,pairL_step]
   have FIN:Hid (∀X f i,R=none→FltV f→Below wr.heap.size wr X→upP D w R (.returned (.tuple #[.slice none 0 0,.slice none 0 0,.iface 124 (.agg #[.string ⟨#[112,97,105,114]⟩,.int .i64 i,f])])) X):=fun X f i h hf hX=>⟨ul.bel.trans (hX.mono ul.bel.size),Or.inr ⟨h,_,.inn _ _ (.flt hf),rfl⟩⟩
   have hji:(j:Int)<((l.length:Nat):Int):=by omega
   obtain⟨tx,xx,rfl⟩:=hvx.iface
   clear hP hwx hvx c0
   generalize l[j]=pj at *
   go_wp2_with fail
   refine CK.mono ?_
   rintro e w2 ⟨hb2',⟨s,u,y,ho,rfl,hvu⟩ | ⟨ho,b,rfl⟩⟩
   ·have ul2:=ul.below hb2'
    have NX2:Hid (R=if s.data.toList∈keyP ks then none else pairL (keyP ks++[s.data.toList]) (vs++[u]) (l.drop (j+1))):=by
     show _=_
     rw[NX.out,ho]
    have CC:=contains_any (.slice ka ks.length kc) ks s w2 _ (RowAt.of_owns ul2.ownK) (by omega)
    rw[hasB_mem] at CC
    obtain⟨ty,yy,rfl⟩:=hvu.iface
    by_cases hin:s.data.toList∈keyP ks
    ·have HO:Hid (R=none):=by show _=_;rw[NX2.out,if_pos hin]
     rw[decide_eq_true hin] at CC
     clear CK NX NX2 ho ul ul2 hin hvu
     go_wp2_with (go_at_call 103;refine CC.mono ?_;rintro e w3 ⟨rfl,rfl⟩)
     go_ret3
     exact FIN.out _ _ _ HO.out (flt_why _) (by first | exact hb2' | exact hb2'.trans (below1 _ _))
    ·have HP:Aside (R=pairL (keyP ks++[s.data.toList]) (vs++[u]) (l.drop (j+1))):=by show _=_;rw[NX2.out,if_neg hin]
     rw[decide_eq_false hin] at CC
     have hz:=ul2.bel.size
     have ownK:=ul2.ownK
     have K6:Hid (∀w6 k' o,_):=fun w6 k' o=>UL.key (w7:=w6) (k':=k') (o:=o) (s:=s) ul2
     have V2:Hid (∀w6,Below w.heap.size w w6→VL w6 (fun g=>D g∧g<w.heap.size) u (.iface ty yy)):=fun w6 h6=>hvu.map fun _ _ _ k=>(k.keep fun q hq _=>by rw[h6.block q hq.2,ul2.bel.block q hq.2]).weaken fun q hq=>hq.1
     clear CK NX NX2 ho ul ul2 hin hvu FIN
     go_wp2_with (first
      |(go_at_call 103;refine CC.mono ?_;rintro e w3 ⟨rfl,rfl⟩)
      |(at_builtin;obtain⟨i0,hi,hz0,hz1,hz2⟩:=info_parts Tryz.infoString;refine wpList_append_own_at _ rfl _ _ 26 rfl w.heap.size 9 i0 (.string ⟨#[]⟩) 1 16 underlying26 hi hz0 hz1 hz2 rfl (by decide) _ _ _ rfl (ownK.alloc _) ⟨w3.heap.size,0,none⟩ 1 1 [.string s] rfl rfl (cell_one_new _ _ _) (fun x hx=>by simp at hx;subst hx;rfl) (by unfold maxLen;omega) (by omega) (by simp;omega) ?_;intro k' w6 hownk hgrowk hnilk hobk;clear hi hz0 hz1 hz2;obtain⟨ka',kc',rfl⟩:=owns_slice hownk;have ul6:=K6.out _ _ _ hownk hgrowk hobk;have hvu6:=V2.out w6 ul6.bel;have ownV:=ul6.ownV;have hz6:=ul6.bel.size;clear hownk hgrowk hobk hnilk K6)
      |(at_builtin;obtain⟨i0,hi,hz0,hz1,hz2⟩:=info_parts Tryz.infoVVal;refine wpList_append_own_at _ rfl _ _ 70 rfl w.heap.size 74 i0 .nilIface 1 16 underlying70 hi hz0 hz1 hz2 rfl (by decide) _ _ _ rfl (ownV.alloc _) ⟨w6.heap.size,0,none⟩ 1 1 [.iface ty yy] rfl rfl (cell_one_new _ _ _) (fun x hx=>by simp at hx;subst hx;rfl) (by unfold maxLen;omega) (by omega) (by simp;omega) ?_;intro v' w7 hownv hgrowv hnilv hobv;clear hi hz0 hz1 hz2))
     go_roundg (l.length-(j+1))
     case measure=>omega
     case rel =>
      refine⟨j+1,ks++[s],vs++[u],cs++[.iface ty yy],rfl,by go_num,by omega,(show _∧_ by have:=hvl.out;simp;omega),?_,(show _=_ by rw[HP.out];simp[keyP])⟩
      exact ul6.val hvu6 hownv hgrowv hobv
   ·have HO:Hid (R=none):=by show _=_;rw[NX.out,ho]
    clear CK NX ho ul
    go_wp2_with fail
    go_ret3
    exact FIN.out _ _ _ HO.out (flt_why b) (by first | exact hb2' | exact hb2'.trans (below1 _ _))
  ·have hjj:j=l.length:=by omega
   have hji:¬ (j:Int)<((l.length:Nat):Int):=by omega
   have HO:Hid (R=some (keyP ks,vs)):=by
    show _=_
    rw[hP.out,hjj,List.drop_length,pairL]
   clear hP
   subst hjj
   go_wp2_with fail
   go_ret3
   exact⟨ul.bel,Or.inl ⟨_,_,_,_,_,HO.out,rfl,ul⟩⟩
end Go.Proofs.YtifhgjpglicjbaaGreatDoor
namespace Go.Proofs.YtifhgjpglicjbaaGreatDoor
open Go.Proofs.Tryz
open Go.RowKit Go.Lib
attribute [local go_sem ↓] Go.wp_at_zero Go.wp_at_succ
attribute [local go_sem] va_num_num va_num_txt va_num_lst va_txt_num va_txt_txt va_txt_lst va_lst_num va_lst_txt va_lst_lst
def elOf:List PV→Option (List UInt8×List (List UInt8×List UInt8)×List Hd×List PV)
 | [.txt t,.lst ats,.lst ks]=>if wordN t then (attrL [] [] ats).map fun x=>(t,x.1,x.2,ks) else none
 | _=>none
def eoP (D : Nat → Prop) (w : World) (o : Option (List UInt8 × List (List UInt8 × List UInt8) × List Hd × List PV)) (e : Ending) (w' : World) : Prop :=
  Below w.heap.size w w' ∧ ((∃ (tag : ByteArray) (ats : List (ByteArray × ByteArray)) (hs : List Hd) (ks : List PV) (av hv : Value) (hc : List Value) (ad : Option Addr) (cap : Nat) (cs : List Value),
    o = some (tag.data.toList, atP ats, hs, ks) ∧ e = .returned (.tuple #[.agg #[.int .i64 0, .bool false, .string ⟨#[]⟩, .string tag, av, hv, .slice none 0 0], .slice ad ks.length cap, .nilIface]) ∧
    RowAt w' (w.heap.size ≤ ·) 270 2 av ats.length (atC ats) ∧ RowAt w' (w.heap.size ≤ ·) 160 3 hv hs.length hc ∧ HdC w' D hs hc ∧ SegAt w' D 74 1 (.slice ad ks.length cap) ks.length cs ∧ VLs w' D ks cs) ∨
   (o = none ∧ ∃ f, FltN f ∧ e = .returned (.tuple #[.agg #[.int .i64 0, .bool false, .string ⟨#[]⟩, .string ⟨#[]⟩, .slice none 0 0, .slice none 0 0, .slice none 0 0], .slice none 0 0, f])))
theorem res7 {X:World}{B:Nat}{x0 x1 x2 x3 x4 x5 x6:Value}{t:TypeId}(hq:X.heap[B]?=some (.cells #[x0,x1,x2,x3,x4,x5,x6] t))(a b c d e f g:Value):
  (((((((X.setCell ⟨B,0,none⟩ a).setCell ⟨B,1,none⟩ b).setCell ⟨B,2,none⟩ c).setCell ⟨B,3,none⟩ d).setCell ⟨B,4,none⟩ e).setCell ⟨B,5,none⟩ f).setCell ⟨B,6,none⟩ g).heap[B]?=some (.cells #[a,b,c,d,e,f,g] t):=by
 have h1:=set_block (j:=6) (set_block (j:=5) (set_block (j:=4) (set_block (j:=3) (set_block (j:=2) (set_block (j:=1) (set_block (j:=0) hq a) b) c) d) e) f) g
 rw[h1]
 rfl
theorem below_s7 {w X:World}(h:Below w.heap.size w X)(a b c d e f g:Value):Below w.heap.size w (((((((X.setCell ⟨w.heap.size,0,none⟩ a).setCell ⟨w.heap.size,1,none⟩ b).setCell ⟨w.heap.size,2,none⟩ c).setCell ⟨w.heap.size,3,none⟩ d).setCell ⟨w.heap.size,4,none⟩ e).setCell ⟨w.heap.size,5,none⟩ f).setCell ⟨w.heap.size,6,none⟩ g) :=
 ((((((h.setCell (p:=⟨w.heap.size,0,none⟩) (Nat.le_refl _) a).setCell (p:=⟨w.heap.size,1,none⟩) (Nat.le_refl _) b).setCell (p:=⟨w.heap.size,2,none⟩) (Nat.le_refl _) c).setCell (p:=⟨w.heap.size,3,none⟩) (Nat.le_refl _) d).setCell (p:=⟨w.heap.size,4,none⟩) (Nat.le_refl _) e).setCell (p:=⟨w.heap.size,5,none⟩) (Nat.le_refl _) f).setCell (p:=⟨w.heap.size,6,none⟩) (Nat.le_refl _) g
def TyKeep (t:TypeId)(w w':World):Prop:=∀(g:Nat) (cur:Array Value),w.heap[g]?=some (Obj.cells cur t)→w'.heap[g]?=some (Obj.cells cur t)
theorem TyKeep.trans {t:TypeId}{a b c:World}(h:TyKeep t a b)(k:TyKeep t b c):TyKeep t a c:=fun g cur e=>k g cur (h g cur e)
theorem TyKeep.of_below {t:TypeId}{w w':World}(h:Below w.heap.size w w'):TyKeep t w w':=fun g cur e=>by rw[h.block g (block_lt e)];exact e
theorem TyKeep.setCell {t t0:TypeId}{w:World}{b j:Nat}{c:Array Value}(hq:w.heap[b]?=some (.cells c t0))(hne:t0≠t)(u:Value):TyKeep t w (w.setCell ⟨b,j,none⟩ u):=fun g cur e=>by
 have:g≠b:=fun h=>by
  subst h
  rw[hq] at e
  cases e
  exact hne rfl
 rw[Below.heap_setCell _ ⟨b,j,none⟩ _ _ this]
 exact e
theorem SegAt.tyKeep {w w':World}{D:Nat→Prop}{e:TypeId}{size:Nat}{v:Value}{n:Nat}{xs:List Value}(h:SegAt w D e size v n xs)(hk:TyKeep e w w'):SegAt w' D e size v n xs:=by
 refine⟨h.1,?_⟩
 rcases h.2 with g | ⟨g,o,cap,cur,hv,hg,hh,r⟩
 ·exact Or.inl g
 ·exact Or.inr ⟨g,o,cap,cur,hv,hg,hk _ _ hh,r⟩
theorem RowAt.tyKeep {w w':World}{D:Nat→Prop}{e:TypeId}{size:Nat}{v:Value}{n:Nat}{xs:List Value}(h:RowAt w D e size v n xs)(hk:TyKeep e w w'):RowAt w' D e size v n xs:=by
 refine⟨h.1,?_⟩
 rcases h.2 with g | ⟨g,cap,cur,hv,hg,hh,r⟩
 ·exact Or.inl g
 ·exact Or.inr ⟨g,cap,cur,hv,hg,hk _ _ hh,r⟩
theorem VL.tyKeep {w w':World}{D:Nat→Prop}{v:PV}{x:Value}(h:VL w D v x)(hk:TyKeep 74 w w'):VL w' D v x:=h.map fun _ _ _ g=>g.tyKeep hk
theorem VLs.tyKeep {w w':World}{D:Nat→Prop}{v:List PV}{x:List Value}(h:VLs w D v x)(hk:TyKeep 74 w w'):VLs w' D v x:=h.map fun _ _ _ g=>g.tyKeep hk
theorem TyKeep.set7 {t t0:TypeId}{X:World}{B:Nat}{x0 x1 x2 x3 x4 x5 x6:Value}(hq:X.heap[B]?=some (.cells #[x0,x1,x2,x3,x4,x5,x6] t0))(hne:t0≠t)(a b c d e f g:Value):
  TyKeep t X (((((((X.setCell ⟨B,0,none⟩ a).setCell ⟨B,1,none⟩ b).setCell ⟨B,2,none⟩ c).setCell ⟨B,3,none⟩ d).setCell ⟨B,4,none⟩ e).setCell ⟨B,5,none⟩ f).setCell ⟨B,6,none⟩ g):=fun q cur h=>by
 have:q≠B:=fun e=>by
  subst e
  rw[hq] at h
  cases h
  exact hne rfl
 rw[Below.heap_setCell _ ⟨B,6,none⟩ _ _ this,Below.heap_setCell _ ⟨B,5,none⟩ _ _ this,Below.heap_setCell _ ⟨B,4,none⟩ _ _ this,Below.heap_setCell _ ⟨B,3,none⟩ _ _ this,Below.heap_setCell _ ⟨B,2,none⟩ _ _ this,Below.heap_setCell _ ⟨B,1,none⟩ _ _ this,Below.heap_setCell _ ⟨B,0,none⟩ _ _ this]
 exact h
theorem attr1_len {a a':List (List UInt8×List UInt8)}{h h':List Hd}{v:PV}(e:attr1 a h v=some (a',h')):a'.length≤a.length+1∧h'.length≤h.length+1:=by
 unfold attr1 at e
 split at e
 ·split at e
  ·split at e<;>first | cases e | (split at e<;>cases e;simp)
  ·split at e<;>first | cases e | (split at e<;>cases e;simp)
 ·cases e
theorem alloc_block {X:World}{B:Nat}{x o:Obj}(hq:X.heap[B]?=some x):(X.alloc o).heap[B]?=some x:=by rw[alloc_old _ _ _ (block_lt hq)];exact hq
theorem box7 {X:World}{B:Nat}{x0 x1 x2 x3 x4 x5 x6:Value}{t:TypeId}(hq:X.heap[B]?=some (.cells #[x0,x1,x2,x3,x4,x5,x6] t)):
  X.cell? ⟨B,0,none⟩=some x0∧X.cell? ⟨B,1,none⟩=some x1∧X.cell? ⟨B,2,none⟩=some x2∧X.cell? ⟨B,3,none⟩=some x3∧X.cell? ⟨B,4,none⟩=some x4∧X.cell? ⟨B,5,none⟩=some x5∧X.cell? ⟨B,6,none⟩=some x6∧∀j,X.frozen? ⟨B,j,none⟩=false:=by
 refine⟨?_,?_,?_,?_,?_,?_,?_,fun j=>?_⟩<;>first | (unfold World.cell?;rw[hq];rfl) | (unfold World.frozen?;rw[hq];rfl)
theorem elementOf_any (D:Nat→Prop)(l:List PV)(ad:Option Addr)(cap:Nat)(cs:List Value)(w:World)(hw:wtVs l≤600)(hseg:SegAt w D 74 1 (.slice ad l.length cap) l.length cs)(hvs:VLs w D l cs):
  Calls prog 190 #[.slice ad l.length cap] w (eoP D w (elOf l)):=by
 obtain⟨R,hR⟩:∃R,R=elOf l:=⟨_,rfl⟩
 rw[←hR]
 have FIN:Hid (∀X f,R=none→FltN f→Below w.heap.size w X→eoP D w R (.returned (.tuple #[.agg #[.int .i64 0,.bool false,.string ⟨#[]⟩,.string ⟨#[]⟩,.slice none 0 0,.slice none 0 0,.slice none 0 0],.slice none 0 0,f])) X):=fun X f h hf hX=>⟨hX,Or.inr ⟨h,f,hf,rfl⟩⟩
 have bX:=below1 w (Obj.cells #[.int .i64 0,.bool false,.string ⟨#[]⟩,.string ⟨#[]⟩,.slice none 0 0,.slice none 0 0,.slice none 0 0] 223)
 have CH:=headed_any (fun g=>D g∧g<w.heap.size) l ad cap cs _ (hseg.keep fun q _ hq=>bX.block q hq) (hvs.map fun _ _ _ h=>h.keep fun q _ hq=>bX.block q hq)
 have q0:(w.alloc (Obj.cells #[.int .i64 0,.bool false,.string ⟨#[]⟩,.string ⟨#[]⟩,.slice none 0 0,.slice none 0 0,.slice none 0 0] 223)).heap[w.heap.size]?=some (Obj.cells #[.int .i64 0,.bool false,.string ⟨#[]⟩,.string ⟨#[]⟩,.slice none 0 0,.slice none 0 0,.slice none 0 0] 223):=heap_alloc_new _ _
 have QX:Hid (∀X,Below (w.alloc (Obj.cells #[.int .i64 0,.bool false,.string ⟨#[]⟩,.string ⟨#[]⟩,.slice none 0 0,.slice none 0 0,.slice none 0 0] 223)).heap.size (w.alloc (Obj.cells #[.int .i64 0,.bool false,.string ⟨#[]⟩,.string ⟨#[]⟩,.slice none 0 0,.slice none 0 0,.slice none 0 0] 223)) X→Below w.heap.size w X∧X.heap[w.heap.size]?=some (Obj.cells #[.int .i64 0,.bool false,.string ⟨#[]⟩,.string ⟨#[]⟩,.slice none 0 0,.slice none 0 0,.slice none 0 0] 223)):=fun X hX=>⟨bX.trans (hX.mono bX.size),by rw[hX.block _ (by simp)];exact q0⟩
 clear hseg hvs bX q0
 go_enter func190,ntmps190
 go_wp2_with fail
 refine CH.mono ?_
 rintro e w2 ⟨hb2,⟨s,r,ra,rc,rcs,ho,rfl,hsg,hrv⟩ | ⟨ho,b,rfl⟩⟩
 ·obtain⟨B2,q2⟩:=QX.out _ hb2
  obtain⟨r0,r1,r2,r3,r4,r5,r6,f0⟩:=box7 q2
  have hsl:=headV_wt ho
  rw[show s.data.toList.length=s.size by simp] at hsl
  have hwr:=headV_rest ho
  have CW:=fun X=>isWord_any s X (by unfold maxLen;omega)
  obtain⟨rfl⟩:l=.txt s.data.toList::r:=by
   cases l with
   | nil=>cases ho
   | cons a q =>
    cases a with
    | num _=>cases ho
    | lst _=>cases ho
    | txt c=>cases ho;rfl
  by_cases h1:r.length=2
  ·obtain⟨va,vk,rfl⟩:∃va vk,r=[va,vk]:=by
    match r,h1 with
    | [m,q],_=>exact⟨m,q,rfl⟩
   cases hwd:wordN s.data.toList with
   | false =>
    have HO:Hid (R=none):=by
     show R=none
     rw[hR]
     cases va<;>cases vk<;>simp[elOf,hwd]
    rw[hwd] at CW
    clear CH QX ho q2 hb2 hR hrv hsg
    simp only[List.length_cons,List.length_nil]
    go_wp2_with (go_at_call 214;refine (CW _).mono ?_;rintro e w1 ⟨rfl,rfl⟩)
    exact bodyPost_ret (v:=.tuple #[.agg #[.int .i64 0,.bool false,.string ⟨#[]⟩,.string ⟨#[]⟩,.slice none 0 0,.slice none 0 0,.slice none 0 0],.slice none 0 0,whyB _]) (by simp[results,results190,go_sem,r0,r1,r2,r3,r4,r5,r6];rfl) rfl (FIN.out _ _ HO.out (.flt (flt_why _)) (below_s7 B2 _ _ _ _ _ _ _))
   | true =>
    rw[hwd] at CW
    obtain⟨ya,hya,hva⟩:=hrv.at 0 (by simp)
    obtain⟨yk,hyk,hvk⟩:=hrv.at 1 (by simp)
    obtain⟨g,o,cp,hcap,_,hc1,hc2,hcell⟩:=hsg.cell (by simp)
    cases hcap
    have c0:w2.cell? ⟨g,o,none⟩=some ya:=by
     have:=hcell 0 (by simp)
     rw[hya] at this
     exact this
    have c1:w2.cell? ⟨g,o+1,none⟩=some yk:=by
     have:=hcell 1 (by simp)
     rw[hyk] at this
     exact this
    simp only[List.length_cons,List.length_nil] at hc1 ⊢
    unfold maxLen at hc2
    simp only[List.getElem_cons_zero,List.getElem_cons_succ] at hva hvk
    have cX:=fun o'=>alloc_cell (o:=o') c1
    have qA:=fun o1 o2=>alloc_block (o:=o2) (alloc_block (o:=o1) q2)
    have rA:=fun o1 o2=>box7 (qA o1 o2)
    have BA:=fun o1 o2=>(B2.alloc B2.size o1).alloc (by simp;have:=B2.size;omega) o2
    by_cases h2:∃la lk,va=.lst la∧vk=.lst lk
    ·obtain⟨la,lk,rfl,rfl⟩:=h2
     obtain⟨z,hz1,hz2⟩ | ⟨z,hz1,hz2⟩ | ⟨la',aa,ac,acs,hz1,rfl,sga,vsa⟩:=VL_kind hva
     ·cases hz1
     ·cases hz1
     cases hz1
     obtain⟨z,hz1,hz2⟩ | ⟨z,hz1,hz2⟩ | ⟨lk',ka,kc,kcs,hz1,rfl,sgk,vsk⟩:=VL_kind hvk
     ·cases hz1
     ·cases hz1
     cases hz1
     have hla:wtVs la≤600:=by
      rw[wtVs,wtV] at hwr
      omega
     have hlk:wtVs lk≤600:=by
      rw[wtVs,wtVs,wtV,wtV] at hwr
      omega
     have hlal:=vlen_le la
     have hlkl:=vlen_le lk
     have CIA:Hid (∀X,Calls prog 124 #[.agg #[.slice aa la.length ac,.int .i64 ((wtVs la:Nat):Int)]] X _):=fun X=>items2_any aa la.length ac _ X sga.capOr (by omega)
     have CIK:Hid (∀X,Calls prog 124 #[.agg #[.slice ka lk.length kc,.int .i64 ((wtVs lk:Nat):Int)]] X _):=fun X=>items2_any ka lk.length kc _ X sgk.capOr (by omega)
     have CELL:Hid (∀j (hj:j<la.length),∃g o x,aa=some ⟨g,o,none⟩∧w2.cell? ⟨g,o+j,none⟩=some x∧VL w2 (fun g=>D g∧g<w.heap.size) la[j] x∧wtV la[j]≤600):=fun j hj=>by
      obtain⟨y,hy,hvy⟩:=vsa.at j hj
      obtain⟨g,o,cp,hcap,_,hc1,hc2,hcell⟩:=sga.cell (by omega)
      cases hcap
      have:=hcell j (by omega)
      rw[hy] at this
      refine⟨g,o,y,rfl,this,hvy,?_⟩
      have:=wtVs_mem (List.getElem_mem hj)
      omega
     have HR:Aside (R=(attrL [] [] la).map fun x=>(s.data.toList,x.1,x.2,lk)):=by
      show R=_
      rw[hR]
      simp[elOf,hwd]
     generalize wtVs la=wla at *
     generalize wtVs lk=wlk at *
     clear hva hvk hrv hsg hcell hya hyk CH hR ho sga vsa
     go_wp2_with (first
      |(go_at_call 214;refine (CW _).mono ?_;rintro e w1 ⟨rfl,rfl⟩)
      |(go_at_call 124;refine (CIA.out _).mono ?_;rintro e w3 ⟨rfl,hb3⟩))
     have h00:((w1.alloc (Obj.cells #[.slice aa la.length ac,.int .i64 (wla:Int)] 195)).alloc (Obj.cells #[.slice ka lk.length kc,.int .i64 (wlk:Int)] 195)).heap.size=w1.heap.size+1+1:=by simp
     have h01:((w1.alloc (Obj.cells #[.slice aa la.length ac,.int .i64 (wla:Int)] 195)).alloc (Obj.cells #[.slice ka lk.length kc,.int .i64 (wlk:Int)] 195)).heap[w1.heap.size+1]?=some (Obj.cells #[.slice ka lk.length kc,.int .i64 (wlk:Int)] 195):=by
      have:=heap_alloc_new (w1.alloc (Obj.cells #[.slice aa la.length ac,.int .i64 (wla:Int)] 195)) (Obj.cells #[.slice ka lk.length kc,.int .i64 (wlk:Int)] 195)
      simpa using this
     have h02:=qA (Obj.cells #[.slice aa la.length ac,.int .i64 (wla:Int)] 195) (Obj.cells #[.slice ka lk.length kc,.int .i64 (wlk:Int)] 195)
     have h03:=BA (Obj.cells #[.slice aa la.length ac,.int .i64 (wla:Int)] 195) (Obj.cells #[.slice ka lk.length kc,.int .i64 (wlk:Int)] 195)
     have h04:Below w1.heap.size w1 ((w1.alloc (Obj.cells #[.slice aa la.length ac,.int .i64 (wla:Int)] 195)).alloc (Obj.cells #[.slice ka lk.length kc,.int .i64 (wlk:Int)] 195)):=(below1 w1 _).alloc (by simp) _
     generalize (w1.alloc (Obj.cells #[.slice aa la.length ac,.int .i64 (wla:Int)] 195)).alloc (Obj.cells #[.slice ka lk.length kc,.int .i64 (wlk:Int)] 195)=W0 at *
     have hE3:EB D w3 W0.heap.size s [] [] (.slice none 0 0) (.slice none 0 0) []:=EB.below ⟨heap_alloc_new _ _,World.ownsRow_nil _ _ _ _,World.ownsRow_nil _ _ _ _,rfl,fun g h=>by cases h⟩ hb3
     have hB3:Below W0.heap.size W0 w3:=(below1 W0 _).trans (hb3.mono (by simp))
     have CELL2:Hid (∀j (hj:j<la.length),∃g o x,aa=some ⟨g,o,none⟩∧W0.cell? ⟨g,o+j,none⟩=some x∧VL W0 (fun g=>D g∧g<W0.heap.size) la[j] x∧wtV la[j]≤600):=fun j hj=>by
      obtain⟨g,o,x,h1,h2,h3,h4⟩:=CELL.out j hj
      exact⟨g,o,x,h1,Below.cellv h04 h2,(h3.below h04).weaken fun q hq=>⟨hq.1,by have:=hq.2;have:=h03.size;omega⟩,h4⟩
     have SGK:Hid (SegAt W0 D 74 1 (.slice ka lk.length kc) lk.length kcs∧VLs W0 D lk kcs):=⟨(sgk.below h04).weaken fun q hq=>hq.1,(vsk.below h04).weaken fun q hq=>hq.1⟩
     have QB:Hid (W0.heap[w1.heap.size+1]?=some (Obj.cells #[.slice ka lk.length kc,.int .i64 (wlk:Int)] 195)∧W0.heap[w.heap.size]?=some (Obj.cells #[.int .i64 0,.bool false,.string ⟨#[]⟩,.string ⟨#[]⟩,.slice none 0 0,.slice none 0 0,.slice none 0 0] 223)∧Below w.heap.size w W0∧W0.heap.size=w1.heap.size+1+1):=⟨h01,h02,h03,h00⟩
     rw[←h00]
     clear hb3 CELL r0 r1 r2 r3 r4 r5 r6 f0 rA qA BA cX c0 c1 h01 h02 h03 h04 q2 B2 hb2 sgk vsk CW CIA QX hsl hwr h1 hw hwd h00
     go_loopg [63] la.length (fun gh iv wr=>∃(j:Nat) (ats:List (ByteArray×ByteArray)) (hs:List Hd) (av hv:Value) (hc:List Value),gh=la.length-j∧iv=.int .i64 ((j:Nat):Int)∧j≤la.length∧Aside (ats.length≤j∧hs.length≤j)∧EB D wr W0.heap.size s ats hs av hv hc∧Below W0.heap.size W0 wr∧Aside (R=(attrL (atP ats) hs (la.drop j)).map fun x=>(s.data.toList,x.1,x.2,lk)))
     case atStart =>
      exact⟨0,[],[],_,_,[],by omega,rfl,Nat.zero_le _,(show _∧_ from ⟨Nat.le_refl _,Nat.le_refl _⟩),hE3,hB3,HR⟩
     case round =>
      obtain⟨j,ats,hs,av,hv,hc,rfl,rfl,hj,hvl,hE,hB,hP⟩:=hrel
      by_cases hjl:j<la.length
      ·obtain⟨g,o,x,rfl,c0,hvx,hwx⟩:=CELL2.out j hjl
       have c1:=Below.cellv hB c0
       have hl1:=hvl.out.1
       have hl2:=hvl.out.2
       have CA:=addAttribute_any D wr W0.heap.size s ats hs av hv hc la[j] x hE (by omega) (by omega) (hvx.below hB) hwx
       have NX:Hid (R=Option.map (fun x:List (List UInt8×List UInt8)×List Hd=>(s.data.toList,x.1,x.2,lk)) (match attr1 (atP ats) hs la[j] with | none=>none | some (a,h)=>attrL a h (la.drop (j+1)))):=by
        show R=_
        rw[hP.out,List.drop_eq_getElem_cons hjl,attrL]
        rfl
       have hji:(j:Int)<((la.length:Nat):Int):=by omega
       obtain⟨tx,xx,rfl⟩:=hvx.iface
       clear hP hwx hvx c0
       generalize la[j]=pj at *
       go_wp2_with fail
       refine CA.mono ?_
       rintro e w4 ⟨hb4,⟨ats',hs',av',hv',hc',ho,rfl,hE4⟩ | ⟨ho,b,rfl⟩⟩
       ·have HN:Aside (R=Option.map (fun x:List (List UInt8×List UInt8)×List Hd=>(s.data.toList,x.1,x.2,lk)) (attrL (atP ats') hs' (la.drop (j+1)))):=by
         show R=_
         rw[NX.out,ho]
        have hln:=attr1_len ho
        simp only[atP,List.length_map] at hln
        have hB4:=hB.trans hb4
        clear CA NX ho hE hB CELL2
        go_wp2_with fail
        go_roundg (la.length-(j+1))
        case measure=>omega
        case rel =>
         exact⟨j+1,ats',hs',av',hv',hc',rfl,by go_num,by omega,(show _∧_ from ⟨by omega,by omega⟩),hE4,hB4,HN⟩
       ·have HO:Hid (R=none):=by
         show R=_
         rw[NX.out,ho]
         rfl
        have hB4:=hB.trans hb4
        obtain⟨_,qb,bb,_⟩:=QB.out
        have B4:Below w.heap.size w w4:=bb.trans (hB4.mono bb.size)
        have q4:w4.heap[w.heap.size]?=some (Obj.cells #[.int .i64 0,.bool false,.string ⟨#[]⟩,.string ⟨#[]⟩,.slice none 0 0,.slice none 0 0,.slice none 0 0] 223):=by rw[hB4.block _ (block_lt qb)];exact qb
        obtain⟨r0,r1,r2,r3,r4,r5,r6,f0⟩:=box7 q4
        clear CA NX ho hE hB CELL2 qb bb QB q4
        go_wp2_with fail
        exact bodyPost_ret (v:=.tuple #[.agg #[.int .i64 0,.bool false,.string ⟨#[]⟩,.string ⟨#[]⟩,.slice none 0 0,.slice none 0 0,.slice none 0 0],.slice none 0 0,.iface 124 (.agg #[.string ⟨#[97,116,116,114,105,98,117,116,101]⟩,.int .i64 ((j:Nat):Int),whyB b])]) (by simp[results,results190,go_sem,r0,r1,r2,r3,r4,r5,r6]) rfl (FIN.out _ _ HO.out (.inn _ _ (.flt (flt_why _))) (below_s7 B4 _ _ _ _ _ _ _))
      ·have hjj:j=la.length:=by omega
       have hji:¬ (j:Int)<((la.length:Nat):Int):=by omega
       have HO:Hid (R=some (s.data.toList,atP ats,hs,lk)):=by
        show R=_
        rw[hP.out,hjj,List.drop_length,attrL]
        rfl
       clear hP
       subst hjj
       obtain⟨qi,qb,bb,hsz⟩:=QB.out
       have q4:wr.heap[w.heap.size]?=some (Obj.cells #[.int .i64 0,.bool false,.string ⟨#[]⟩,.string ⟨#[]⟩,.slice none 0 0,.slice none 0 0,.slice none 0 0] 223):=by rw[hB.block _ (block_lt qb)];exact qb
       have qi4:wr.heap[w1.heap.size+1]?=some (Obj.cells #[.slice ka lk.length kc,.int .i64 (wlk:Int)] 195):=by rw[hB.block _ (block_lt qi)];exact qi
       obtain⟨r0,r1,r2,r3,r4,r5,r6,f0⟩:=box7 q4
       obtain⟨m0,m1,m2,m3,m4,m5,m6,mf⟩:=box7 hE.blk
       have i0:wr.cell? ⟨w1.heap.size+1,0,none⟩=some (.slice ka lk.length kc):=by unfold World.cell?;rw[qi4];rfl
       have i1:wr.cell? ⟨w1.heap.size+1,1,none⟩=some (.int .i64 (wlk:Int)):=by unfold World.cell?;rw[qi4];rfl
       have if0:=fun j=>(show wr.frozen? ⟨w1.heap.size+1,j,none⟩=false by unfold World.frozen?;rw[qi4];rfl)
       have B4:Below w.heap.size w wr:=bb.trans (hB.mono bb.size)
       have FIN2:Hid (∀X,Below wr.heap.size wr X→eoP D w R (.returned (.tuple #[.agg #[.int .i64 0,.bool false,.string ⟨#[]⟩,.string s,av,hv,.slice none 0 0],.slice ka lk.length lk.length,.nilIface])) (((((((X.setCell ⟨w.heap.size,0,none⟩ (.int .i64 0)).setCell ⟨w.heap.size,1,none⟩ (.bool false)).setCell ⟨w.heap.size,2,none⟩ (.string ⟨#[]⟩)).setCell ⟨w.heap.size,3,none⟩ (.string s)).setCell ⟨w.heap.size,4,none⟩ av).setCell ⟨w.heap.size,5,none⟩ hv).setCell ⟨w.heap.size,6,none⟩ (.slice none 0 0))):=fun X hX=>by
        have qX:X.heap[w.heap.size]?=some (Obj.cells #[.int .i64 0,.bool false,.string ⟨#[]⟩,.string ⟨#[]⟩,.slice none 0 0,.slice none 0 0,.slice none 0 0] 223):=by rw[hX.block _ (block_lt q4)];exact q4
        have T:∀t,(223:TypeId)≠t→TyKeep t wr (((((((X.setCell ⟨w.heap.size,0,none⟩ (.int .i64 0)).setCell ⟨w.heap.size,1,none⟩ (.bool false)).setCell ⟨w.heap.size,2,none⟩ (.string ⟨#[]⟩)).setCell ⟨w.heap.size,3,none⟩ (.string s)).setCell ⟨w.heap.size,4,none⟩ av).setCell ⟨w.heap.size,5,none⟩ hv).setCell ⟨w.heap.size,6,none⟩ (.slice none 0 0)):=fun t ht=>(TyKeep.of_below hX).trans (TyKeep.set7 qX ht _ _ _ _ _ _ _)
        have hwz:=bb.size
        refine⟨below_s7 (B4.trans (hX.mono B4.size)) _ _ _ _ _ _ _,Or.inl ⟨s,ats,hs,lk,av,hv,hc,ka,lk.length,kcs,HO.out,rfl,?_,?_,?_,?_,?_⟩⟩
        ·exact ((RowAt.of_owns hE.ownA).weaken fun q hq=>by show w.heap.size≤q;omega).tyKeep (T _ (by decide))
        ·exact ((RowAt.of_owns hE.ownH).weaken fun q hq=>by show w.heap.size≤q;omega).tyKeep (T _ (by decide))
        ·exact hE.hds.map fun v x hx=>(hx.tyKeep (T _ (by decide))).weaken fun q hq=>hq.1
        ·exact ((SGK.out.1.below hB).clip).tyKeep (T _ (by decide))
        ·exact (SGK.out.2.below hB).tyKeep (T _ (by decide))
       have KK:Hid (∀X w5:World,Below X.heap.size X w5→X.heap=wr.heap→w5.heap[w.heap.size]?=some (Obj.cells #[.int .i64 0,.bool false,.string ⟨#[]⟩,.string ⟨#[]⟩,.slice none 0 0,.slice none 0 0,.slice none 0 0] 223)∧w5.heap[W0.heap.size]?=some (.cells #[.int .i64 0,.bool false,.string ⟨#[]⟩,.string s,av,hv,.slice none 0 0] 223)):=fun X w5 h e=>by
        refine⟨?_,?_⟩
        ·rw[h.block _ (by rw[e];exact block_lt q4),e];exact q4
        ·rw[h.block _ (by rw[e];exact block_lt hE.blk),e];exact hE.blk
       obtain⟨avd,avc,rfl⟩:=owns_slice hE.ownA
       obtain⟨hvd,hvc,rfl⟩:=owns_slice hE.ownH
       clear qi qb bb QB q4 qi4 hsz CELL2 hE SGK FIN HO
       go_wp2_with fail
       go_region_with (go_at_call 124;refine (CIK.out _).mono ?_;rintro e w5 ⟨rfl,hb5⟩;obtain⟨q5,e5⟩:=KK.out _ _ hb5 rfl;obtain⟨s0,s1,s2,s3,s4,s5,s6,sf⟩:=box7 q5;obtain⟨n0,n1,n2,n3,n4,n5,n6,nf⟩:=box7 e5;clear q5 e5)
       all_goals (go_wp2_with fail)
       all_goals exact bodyPost_ret (v:=.tuple #[.agg #[.int .i64 0,.bool false,.string ⟨#[]⟩,.string s,.slice avd ats.length avc,.slice hvd hs.length hvc,.slice none 0 0],.slice ka lk.length lk.length,.nilIface]) (by simp[results,results190,go_sem,s0,s1,s2,s3,s4,s5,s6]) rfl (FIN2.out _ (by first | exact hb5 | exact hb5.drew | exact (Below.refl _ _).drew.trans hb5))
    ·have HO:Hid (R=none):=by
      rw[hR]
      cases va<;>cases vk<;>first | rfl | exact absurd ⟨_,_,rfl,rfl⟩ h2
     clear CH QX ho q2 hb2 hR hrv hsg
     rcases VL_kind hva with ⟨z,rfl,rfl⟩ | ⟨z,rfl,rfl⟩ | ⟨la,aa,ac,acs,rfl,rfl,_,_⟩<;>rcases VL_kind hvk with ⟨y,rfl,rfl⟩ | ⟨y,rfl,rfl⟩ | ⟨lk,ka,kc,kcs,rfl,rfl,_,_⟩
     all_goals try exact absurd ⟨_,_,rfl,rfl⟩ h2
     all_goals
      clear h2 hva hvk hcell hya hyk
      go_wp2_with (go_at_call 214;refine (CW _).mono ?_;rintro e w1 ⟨rfl,rfl⟩)
      exact bodyPost_ret (v:=.tuple #[.agg #[.int .i64 0,.bool false,.string ⟨#[]⟩,.string ⟨#[]⟩,.slice none 0 0,.slice none 0 0,.slice none 0 0],.slice none 0 0,whyB _]) (by simp[results,results190,go_sem,rA];rfl) rfl (FIN.out _ _ HO.out (.flt (flt_why _)) (below_s7 (BA _ _) _ _ _ _ _ _ _))
  ·have HO:Hid (R=none):=by
    show R=none
    rw[hR]
    match r,h1 with
    | [],_=>rfl
    | [.num _],_=>rfl
    | [.txt _],_=>rfl
    | [.lst _],_=>rfl
    | [_,_],h=>exact absurd rfl h
    | .num _::_::_::_,_=>rfl
    | .txt _::_::_::_,_=>rfl
    | .lst _::.num _::_::_,_=>rfl
    | .lst _::.txt _::_::_,_=>rfl
    | .lst _::.lst _::_::_,_=>rfl
   have hi1:decide ((r.length:Int)=2)=false:=decide_eq_false (by omega)
   have hi2:¬ (r.length:Int)=2:=by omega
   clear CH QX ho q2 hb2 hR hrv hsg
   go_wp2_with fail
   exact bodyPost_ret (v:=.tuple #[.agg #[.int .i64 0,.bool false,.string ⟨#[]⟩,.string ⟨#[]⟩,.slice none 0 0,.slice none 0 0,.slice none 0 0],.slice none 0 0,whyB _]) (by simp[results,results190,go_sem,r0,r1,r2,r3,r4,r5,r6];rfl) rfl (FIN.out _ _ HO.out (.flt (flt_why _)) (below_s7 B2 _ _ _ _ _ _ _))
 ·obtain⟨B2,q2⟩:=QX.out _ hb2
  obtain⟨r0,r1,r2,r3,r4,r5,r6,f0⟩:=box7 q2
  have HO:Hid (R=none):=by
   rw[hR]
   match l,ho with
   | [],_=>rfl
   | .num _::_,_=>rfl
   | .lst _::_,_=>rfl
  clear CH QX ho q2 hb2 hR
  go_wp2_with fail
  exact bodyPost_ret (v:=.tuple #[.agg #[.int .i64 0,.bool false,.string ⟨#[]⟩,.string ⟨#[]⟩,.slice none 0 0,.slice none 0 0,.slice none 0 0],.slice none 0 0,whyB _]) (by simp[results,results190,go_sem,r0,r1,r2,r3,r4,r5,r6];rfl) rfl (FIN.out _ _ HO.out (.flt (flt_why _)) (below_s7 B2 _ _ _ _ _ _ _))
end Go.Proofs.YtifhgjpglicjbaaGreatDoor
