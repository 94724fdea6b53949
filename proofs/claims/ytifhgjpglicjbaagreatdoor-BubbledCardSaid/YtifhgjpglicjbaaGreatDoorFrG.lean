/-
  Frames, the program: an element that is being made; an attribute more. (Begun.)
-/
import Derived.Test.YtifhgjpglicjbaaGreatDoorFrC
import Derived.Maps.AppendAt
set_option maxHeartbeats 4000000
set_option maxRecDepth 8000
namespace Go.Proofs.YtifhgjpglicjbaaGreatDoor
open Go.Proofs.Tryz
open Go.RowKit Go.Lib
attribute [local go_sem ↓] Go.wp_at_zero Go.wp_at_succ
attribute [local go_sem] va_num_num va_num_txt va_num_lst va_txt_num va_txt_txt va_txt_lst va_lst_num va_lst_txt va_lst_lst
theorem attr1_no {ats:List (List UInt8×List UInt8)}{hs:List Hd}{l:List PV}(h:headV l=none):attr1 ats hs (.lst l)=none:=by
 cases l with
 | nil=>rfl
 | cons a r=>cases a<;>first | rfl | cases h
theorem attr1_on {ats:List (List UInt8×List UInt8)}{hs:List Hd}{l r:List PV}(h:headV l=some ([111,110],r)):attr1 ats hs (.lst l)=(hdOf r).map fun x=>(ats,hs++[x]):=by
 cases l with
 | nil=>cases h
 | cons a q =>
  cases a with
  | num _=>cases h
  | lst _=>cases h
  | txt c =>
   cases h
   match r with
   | []=>rfl
   | [.num _]=>rfl
   | [.lst _]=>rfl
   | [.txt e]=>simp[attr1,hdOf,headV,hdR]
   | .num _::_::_=>rfl
   | .lst _::_::_=>rfl
   | [.txt e,m]=>cases hw:wordN e<;>simp[attr1,hdOf,headV,hdR,hw]
   | [.txt e,m,.num z]=>cases hw:wordN e<;>simp[attr1,hdOf,headV,hdR,hw]
   | [.txt e,m,.txt z]=>simp[attr1,hdOf,headV,hdR]
   | [.txt e,m,.lst z]=>simp[attr1,hdOf,headV,hdR]
   | .txt e::m::.num _::_::_=>simp[attr1,hdOf,headV,hdR]
   | .txt e::m::.txt _::_::_=>simp[attr1,hdOf,headV,hdR]
   | .txt e::m::.lst _::_::_=>simp[attr1,hdOf,headV,hdR]
theorem attr1_at {ats:List (List UInt8×List UInt8)}{hs:List Hd}{l r:List PV}{n:List UInt8}(h:headV l=some (n,r))(hn:n≠[111,110]):attr1 ats hs (.lst l)=(atOf n r).map fun t=>(ats++[(n,t)],hs):=by
 cases l with
 | nil=>cases h
 | cons a q =>
  cases a with
  | num _=>cases h
  | lst _=>cases h
  | txt c =>
   cases h
   match r with
   | []=>simp[attr1,atOf,hn]
   | [.num _]=>simp[attr1,atOf,hn]
   | [.lst _]=>simp[attr1,atOf,hn]
   | [.txt t]=>cases hw:wordN n<;>simp[attr1,atOf,hn,hw]
   | .num _::_::_=>simp[attr1,atOf,hn]
   | .lst _::_::_=>simp[attr1,atOf,hn]
   | .txt _::_::_=>simp[attr1,atOf,hn]
theorem headV_rest {l r:List PV}{b:List UInt8}(h:headV l=some (b,r)):wtVs r≤wtVs l:=by
 cases l with
 | nil=>cases h
 | cons a q =>
  cases a with
  | num _=>cases h
  | lst _=>cases h
  | txt c =>
   cases h
   rw[wtVs]
   omega
def atC:List (ByteArray×ByteArray)→List Value
 | []=>[]
 |(n,t)::r=>.string n::.string t::atC r
theorem atC_snoc (l:List (ByteArray×ByteArray))(n t:ByteArray):atC (l++[(n,t)])=atC l++[.string n,.string t]:=by
 induction l with
 | nil=>rfl
 | cons a r ih=>simp[atC,ih]
def atP (l:List (ByteArray×ByteArray)):List (List UInt8×List UInt8):=l.map fun x=>(x.1.data.toList,x.2.data.toList)
def HdC (w:World)(D:Nat→Prop):List Hd→List Value→Prop
 | [],cs=>cs=[]
 | h::r,cs=>∃(s:ByteArray) (x:Value) (q:List Value),cs=.string s::x::.bool h.stops::q∧s.data.toList=h.ev∧VL w D h.msg x∧HdC w D r q
theorem HdC.map {w w':World}{D D':Nat→Prop}(hR:∀v x,VL w D v x→VL w' D' v x):∀{l:List Hd} {cs:List Value},HdC w D l cs→HdC w' D' l cs
 | [],cs,h=>h
 | a::r,cs,h=>by
  obtain⟨s,x,q,h1,h2,h3,h4⟩:=h
  exact⟨s,x,q,h1,h2,hR _ _ h3,HdC.map hR h4⟩
theorem HdC.snoc {w:World}{D:Nat→Prop}{a:Hd}{s:ByteArray}{x:Value}(hs:s.data.toList=a.ev)(hx:VL w D a.msg x):∀{l:List Hd} {cs:List Value},HdC w D l cs→HdC w D (l++[a]) (cs++[.string s,x,.bool a.stops])
 | [],cs,h=>by
  rw[show cs=[] from h]
  exact⟨s,x,[],rfl,hs,hx,rfl⟩
 | b::r,cs,h=>by
  obtain⟨s',x',q,h1,h2,h3,h4⟩:=h
  exact⟨s',x',q++[.string s,x,.bool a.stops],by rw[h1];rfl,h2,h3,HdC.snoc hs hx h4⟩
structure EB (D:Nat→Prop)(w:World)(eb:Nat)(tag:ByteArray)(ats:List (ByteArray×ByteArray))(hs:List Hd)(av hv:Value)(hc:List Value):Prop where
 blk:w.heap[eb]?=some (.cells #[.int .i64 0,.bool false,.string ⟨#[]⟩,.string tag,av,hv,.slice none 0 0] 223)
 ownA:w.ownsRow (eb+1) 270 2 av ats.length (atC ats)
 ownH:w.ownsRow (eb+1) 160 3 hv hs.length hc
 hds:HdC w (fun g=>D g∧g<eb) hs hc
 ne:∀g,av.ownBlock=some g→hv.ownBlock≠some g
theorem EB.below {D:Nat→Prop}{w w':World}{eb:Nat}{tag:ByteArray}{ats:List (ByteArray×ByteArray)}{hs:List Hd}{av hv:Value}{hc:List Value}(h:EB D w eb tag ats hs av hv hc)(hb:Below w.heap.size w w'):EB D w' eb tag ats hs av hv hc :=
 ⟨by rw[hb.block _ (block_lt h.blk)];exact h.blk,owns_keep h.ownA fun q hq=>hb.block q (h.ownA.lt q hq).2,owns_keep h.ownH fun q hq=>hb.block q (h.ownH.lt q hq).2,h.hds.map fun v x hx=>hx.below hb,h.ne⟩
theorem EB.facts {D:Nat→Prop}{w:World}{eb:Nat}{tag:ByteArray}{ats:List (ByteArray×ByteArray)}{hs:List Hd}{av hv:Value}{hc:List Value}(h:EB D w eb tag ats hs av hv hc):w.cell? ⟨eb,4,none⟩=some av∧w.cell? ⟨eb,5,none⟩=some hv∧(∀j,w.frozen? ⟨eb,j,none⟩=false)∧eb<w.heap.size:=by
 refine⟨?_,?_,fun j=>?_,block_lt h.blk⟩
 ·unfold World.cell?;rw[h.blk];rfl
 ·unfold World.cell?;rw[h.blk];rfl
 ·unfold World.frozen?;rw[h.blk];rfl
theorem step_app_own {P:Program}{ops:Array Oper}{o:Oper}{a:Act}{w:World}{K:Act→World→Prop}{Q:Exit→Act→World→Prop}{E:Prop}
  (hg:o.guard=none) (s x:Operand) (t:TypeId) (hop:o.op=Op.call { callee:=Callee.builtin Builtin.append,args:=#[s,x],argTypes:=#[t,t] })
  (base:Nat) (e:TypeId) (i:TypeInfo) (z:Value) (size bytes:Nat) (h1:P.underlying t=some (.slice e)) (h2:P.info? e=some i) (h3:i.zero=some z) (h4:i.size=size) (h5:i.bytes=bytes) (h6:z.cells.size=size) (h7:0<size)
  (v:Value) (n:Nat) (xs:List Value) (hs:a.eval s=v) (hown:w.ownsRow base e size v n xs)
  (ad:Addr) (m c:Nat) (news:List Value) (hx:a.eval x=.slice (some ad) m c) (hn:news.length=m*size) (hc:∀j u,news[j]?=some u→w.cell? (ad.add j)=some u) (h1c:∀u∈news,u.oneCell'=true)
  (b1:n+m≤maxLen) (b2:(n+m)*bytes≤140737488355328) (hbase:base≤w.heap.size)
  (hK:∀v' w',w'.ownsRow base e size v' (n+m) (xs++news)→w.grownBy w' v.ownBlock→(v'.ownBlock=v.ownBlock∨v'.ownBlock=some w.heap.size)→K (a.put o.dst v') w') :
  if Region.wanted o (yielded ops a.tmps)=true then Oper.wp P o a w K Q else E:=by
 have hw:Region.wanted o (yielded ops a.tmps)=true:=by simp[Region.wanted,hg]
 rw[if_pos hw]
 obtain⟨v',w',hrun,r1,r2,r3,r4⟩:=run_append_own_at (P:=P) w base t o.type e i z size bytes h1 h2 h3 h4 h5 h6 h7 v n xs hown ad m c news hn hc h1c b1 b2 hbase
 unfold Oper.wp
 simp[execOp,hop,resolve,invoke,builtin,hs,hx,hrun,Result.andThen]
 exact hK v' w' r1 r2 r4
theorem grow_below {X w7:World}{eb j:Nat}{o:Obj}{v:Option Nat}(hlt:eb<X.heap.size)(hg:(X.alloc o).grownBy w7 v)(hv:∀g,v=some g→eb+1≤g)(u:Value):Below eb X (w7.setCell ⟨eb,j,none⟩ u):=by
 have h7:Below eb X w7:=by
  refine⟨hg.os,hg.tape,hg.output,?_,fun g hgl=>?_⟩
  ·have:=hg.size
   simp at this
   omega
  ·rw[hg.block g (by simp;omega) (fun e=>by have:=hv g e.symm;omega)]
   exact alloc_old _ _ _ (by omega)
 exact h7.setCell (p:=⟨eb,j,none⟩) (Nat.le_refl _) u
theorem EB.addA {D:Nat→Prop}{X w7:World}{eb:Nat}{tag:ByteArray}{ats:List (ByteArray×ByteArray)}{hs:List Hd}{av hv v':Value}{hc:List Value}{o:Obj}{s t:ByteArray}(h:EB D X eb tag ats hs av hv hc)(own7:w7.ownsRow (eb+1) 270 2 v' (ats.length+1) (atC ats++[.string s,.string t]))(hg:(X.alloc o).grownBy w7 av.ownBlock)(hob:v'.ownBlock=av.ownBlock∨v'.ownBlock=some (X.alloc o).heap.size):
  EB D (w7.setCell ⟨eb,4,none⟩ v') eb tag (ats++[(s,t)]) hs v' hv hc∧Below eb X (w7.setCell ⟨eb,4,none⟩ v'):=by
 have hlt:=block_lt h.blk
 have hB:=grow_below (j:=4) hlt hg (fun g e=>(h.ownA.lt g e).1) v'
 have hb7:w7.heap[eb]?=X.heap[eb]?:=by
  rw[hg.block eb (by simp;omega) (fun e=>by have:=(h.ownA.lt eb e.symm).1;omega)]
  exact alloc_old _ _ _ (by omega)
 refine⟨⟨?_,?_,?_,?_,?_⟩,hB⟩
 ·rw[set_block (hb7.trans h.blk)];rfl
 ·rw[List.length_append,atC_snoc]
  exact owns_keep own7 fun q hq=>Below.heap_setCell _ ⟨eb,4,none⟩ _ _ (by have:=(own7.lt q hq).1;show q≠eb;omega)
 ·refine owns_keep h.ownH fun q hq=>?_
  have hql:=h.ownH.lt q hq
  rw[Below.heap_setCell _ ⟨eb,4,none⟩ _ _ (by show q≠eb;omega),hg.block q (by simp;omega) (fun e=>h.ne q e.symm hq)]
  exact alloc_old _ _ _ hql.2
 ·exact h.hds.map fun v x hx=>hx.map fun _ _ _ k=>(k.keep fun q hq _=>hB.block q hq.2).weaken fun q hq=>hq.1
 ·intro g e1 e2
  rcases hob with h2 | h2
  ·rw[h2] at e1
   exact h.ne g e1 e2
  ·rw[h2] at e1
   have:=(h.ownH.lt g e2).2
   simp at e1
   omega
theorem EB.addH {D:Nat→Prop}{X w7:World}{eb:Nat}{tag:ByteArray}{ats:List (ByteArray×ByteArray)}{hs:List Hd}{av hv v':Value}{hc:List Value}{o:Obj}{s:ByteArray}{a:Hd}{x:Value}(h:EB D X eb tag ats hs av hv hc)(hs':s.data.toList=a.ev)(hx:VL X (fun g=>D g∧g<eb) a.msg x)(own7:w7.ownsRow (eb+1) 160 3 v' (hs.length+1) (hc++[.string s,x,.bool a.stops]))(hg:(X.alloc o).grownBy w7 hv.ownBlock)(hob:v'.ownBlock=hv.ownBlock∨v'.ownBlock=some (X.alloc o).heap.size):
  EB D (w7.setCell ⟨eb,5,none⟩ v') eb tag ats (hs++[a]) av v' (hc++[.string s,x,.bool a.stops])∧Below eb X (w7.setCell ⟨eb,5,none⟩ v'):=by
 have hlt:=block_lt h.blk
 have hB:=grow_below (j:=5) hlt hg (fun g e=>(h.ownH.lt g e).1) v'
 have hb7:w7.heap[eb]?=X.heap[eb]?:=by
  rw[hg.block eb (by simp;omega) (fun e=>by have:=(h.ownH.lt eb e.symm).1;omega)]
  exact alloc_old _ _ _ (by omega)
 refine⟨⟨?_,?_,?_,?_,?_⟩,hB⟩
 ·rw[set_block (hb7.trans h.blk)];rfl
 ·refine owns_keep h.ownA fun q hq=>?_
  have hql:=h.ownA.lt q hq
  rw[Below.heap_setCell _ ⟨eb,5,none⟩ _ _ (by show q≠eb;omega),hg.block q (by simp;omega) (fun e=>h.ne q hq e.symm)]
  exact alloc_old _ _ _ hql.2
 ·rw[List.length_append]
  exact owns_keep own7 fun q hq=>Below.heap_setCell _ ⟨eb,5,none⟩ _ _ (by have:=(own7.lt q hq).1;show q≠eb;omega)
 ·exact (HdC.snoc hs' hx h.hds).map fun v x hx=>hx.map fun _ _ _ k=>(k.keep fun q hq _=>hB.block q hq.2).weaken fun q hq=>hq.1
 ·intro g e1 e2
  rcases hob with h2 | h2
  ·rw[h2] at e2
   exact h.ne g e1 e2
  ·rw[h2] at e2
   have:=(h.ownA.lt g e1).2
   simp at e2
   omega
theorem Tryz.infoNAttr:(prog.info? 270).map (fun i=>(i.zero,i.size,i.bytes))=some (some (.agg #[.string ⟨#[]⟩,.string ⟨#[]⟩]),2,32):=by kernel_rfl
theorem Tryz.infoNHandler:(prog.info? 160).map (fun i=>(i.zero,i.size,i.bytes))=some (some (.agg #[.string ⟨#[]⟩,.nilIface,.bool false]),3,40):=by kernel_rfl
theorem undrewN {X w7:World}{row:Option Nat}(hg:X.drew.grownBy w7 row):X.grownBy w7 row:=⟨hg.os,hg.tape,hg.output,hg.size,hg.block⟩
theorem grown_cell {X w7:World}{o:Obj}{row:Option Nat}{v:Value}{eb j:Nat}(hg:(X.alloc o).grownBy w7 row)(hr:some eb≠row)(hc:X.cell? ⟨eb,j,none⟩=some v)(hf:X.frozen? ⟨eb,j,none⟩=false):w7.cell? ⟨eb,j,none⟩=some v∧w7.frozen? ⟨eb,j,none⟩=false:=by
 have hlt:eb<X.heap.size:=cell_lt hc
 have hb:w7.heap[eb]?=X.heap[eb]?:=by rw[hg.block eb (by simp;omega) hr,(below1 X o).block eb hlt]
 exact⟨by rw[World.cell?_of_block (w:=X) hb];exact hc,by rw[World.frozen?_of_block (w:=X) hb];exact hf⟩
theorem cell_threeN (w:World)(x y z:Value)(t:TypeId):∀j v,[x,y,z][j]?=some v→(w.alloc (.cells #[x,y,z] t)).cell? ((⟨w.heap.size,0,none⟩:Addr).add j)=some v:=by
 intro j v h
 match j,h with
 | 0,h=>cases h;simp[Addr.add]
 | 1,h=>cases h;simp[Addr.add]
 | 2,h=>cases h;simp[Addr.add]
def aaP (D:Nat→Prop)(w:World)(eb:Nat)(tag:ByteArray)(o:Option (List (List UInt8×List UInt8)×List Hd))(e:Ending)(w':World):Prop :=
 Below eb w w'∧((∃ats hs av hv hc,o=some (atP ats,hs)∧e=.returned .nilIface∧EB D w' eb tag ats hs av hv hc)∨(o=none∧∃b:ByteArray,e=.returned (whyB b)))
theorem addAttribute_any (D:Nat→Prop)(w:World)(eb:Nat)(tag:ByteArray)(ats:List (ByteArray×ByteArray))(hs:List Hd)(av hv:Value)(hc:List Value)(v:PV)(x:Value)(hE:EB D w eb tag ats hs av hv hc)(hla:ats.length≤100000)(hlh:hs.length≤100000)(hvx:VL w (fun g=>D g∧g<eb) v x)(hw:wtV v≤600):
  Calls prog 215 #[.pointer (some ⟨eb,0,none⟩),x] w (aaP D w eb tag (attr1 (atP ats) hs v)):=by
 obtain⟨R,hR⟩:∃R,R=attr1 (atP ats) hs v:=⟨_,rfl⟩
 rw[←hR]
 have hlt:=block_lt hE.blk
 have FIN:Hid (∀X (b:ByteArray),R=none→Below w.heap.size w X→aaP D w eb tag R (.returned (whyB b)) X):=fun X b h hX=>⟨hX.mono (by omega),Or.inr ⟨h,b,rfl⟩⟩
 rcases VL_kind hvx with ⟨z,rfl,rfl⟩ | ⟨s,rfl,rfl⟩ | ⟨l,ad,cap,cs,rfl,rfl,hseg,hvs⟩
 ·have HO:Hid (R=none):=hR
  clear hvx hR hE
  go_enter func215,ntmps215
  go_wp2_with fail
  go_ret
  exact FIN.out _ _ HO.out (by first | exact Below.refl _ _ | exact below1 _ _)
 ·have HO:Hid (R=none):=hR
  clear hvx hR hE
  go_enter func215,ntmps215
  go_wp2_with fail
  go_ret
  exact FIN.out _ _ HO.out (by first | exact Below.refl _ _ | exact below1 _ _)
 ·rw[wtV] at hw
  have hll:=vlen_le l
  have CI:Hid (∀X,Calls prog 124 #[.agg #[.slice ad l.length cap,.int .i64 ((wtVs l:Nat):Int)]] X _):=fun X=>items2_any ad l.length cap _ X hseg.capOr (by omega)
  have CH:Hid (∀X,Below w.heap.size w X→Calls prog 161 #[.slice ad l.length l.length] X (heP (fun g=>D g∧g<eb) X (headV l))):=fun X hX=>headed_any _ l ad l.length cs X (hseg.clip.below hX) (hvs.below hX)
  have N0:Hid (headV l=none→R=none):=fun h=>by rw[hR];exact attr1_no h
  have hwl:wtVs l≤600:=by omega
  have HW:Hid (∀b r,headV l=some (b,r)→wtVs r≤600∧b.length≤600):=fun b r h=>⟨by have:=headV_rest h;omega,by have:=headV_wt h;omega⟩
  have N1:Hid (∀r,headV l=some ([111,110],r)→R=(hdOf r).map fun x=>(atP ats,hs++[x])):=fun r h=>by rw[hR];exact attr1_on h
  have N2:Hid (∀n r,headV l=some (n,r)→n≠[111,110]→R=(atOf n r).map fun t=>(atP ats++[(n,t)],hs)):=fun n r h hn=>by rw[hR];exact attr1_at h hn
  generalize wtVs l=wl at *
  clear hvx hR hseg hvs
  go_enter func215,ntmps215
  go_wp2_with (go_at_call 124;refine (CI.out _).mono ?_;rintro e w1 ⟨rfl,hb1⟩)
  have B1:Below w.heap.size w w1:=(below1 w _).trans (hb1.mono (by simp))
  refine (CH.out w1 B1).mono ?_
  rintro e w2 ⟨hb2,⟨s,r,ra,rc,rcs,ho,rfl,hsg,hrv⟩ | ⟨ho,b,rfl⟩⟩
  ·have B2:=B1.trans (hb2.mono B1.size)
   obtain⟨hwr,hsl⟩:=HW.out _ _ ho
   rw[show s.data.toList.length=s.size by simp] at hsl
   have hE2:=hE.below B2
   by_cases hon:s.data.toList=[111,110]
   ·have HN:=N1.out r (by rw[ho,hon])
    have hseq:(s.toList==[111,110])=true:=by
     rw[ByteArray.toList_eq]
     simpa using hon
    have CA:=handlerOf_any _ r ra rc rcs w2 hwr hsg hrv
    clear CH CI N0 N1 N2 HW ho hsg hrv hE
    go_wp2_with fail
    refine CA.mono ?_
    rintro e w3 ⟨hb3,⟨hb,hm,hx,ht,hot,rfl,hvm⟩ | ⟨hot,b,rfl⟩⟩
    ·have hE3:=hE2.below hb3
     obtain⟨e4,e5,fz,hlt3⟩:=hE3.facts
     obtain⟨aad,acap,rfl⟩:=owns_slice hE3.ownH
     have B3:=B2.trans (hb3.mono B2.size)
     have HR:Aside (R=some (atP ats,hs++[⟨hb.data.toList,hm,ht⟩])):=by
      show _=_
      rw[HN,hot]
      rfl
     obtain⟨tm,ym,rfl⟩:=hvm.iface
     clear CA hE2 HN hot
     go_wp2_with fail
     have hE4:=hE3.below (below1 w3 (Obj.cells #[.string hb,.iface tm ym,.bool ht] 160))
     have hv4:=hvm.below (below1 w3 (Obj.cells #[.string hb,.iface tm ym,.bool ht] 160))
     obtain⟨_,g4,gz,hlt4⟩:=hE4.facts
     have B4:=B3.alloc B3.size (Obj.cells #[.string hb,.iface tm ym,.bool ht] 160)
     have b0:(w3.alloc (Obj.cells #[.string hb,.iface tm ym,.bool ht] 160)).cell? ⟨w3.heap.size,0,none⟩=some (.string hb):=by simp
     have b1:(w3.alloc (Obj.cells #[.string hb,.iface tm ym,.bool ht] 160)).cell? ⟨w3.heap.size,1,none⟩=some (.iface tm ym):=by simp
     have b2:(w3.alloc (Obj.cells #[.string hb,.iface tm ym,.bool ht] 160)).cell? ⟨w3.heap.size,2,none⟩=some (.bool ht):=by simp
     generalize w3.alloc (Obj.cells #[.string hb,.iface tm ym,.bool ht] 160)=X3 at *
     have ownH:=hE4.ownH
     have f4:=gz 5
     have hnr:some eb≠(Value.slice aad hs.length acap).ownBlock:=fun e=>by have:=(ownH.lt eb e.symm).1;omega
     have CL:Hid (∀(X:World) (v':Value) (w7:World) (o:Obj),(X=X3∨X=X3.drew)→w7.ownsRow (eb+1) 160 3 v' (hs.length+1) (hc++[.string hb,.iface tm ym,.bool ht])→(X.alloc o).grownBy w7 (Value.slice aad hs.length acap).ownBlock→(v'.ownBlock=(Value.slice aad hs.length acap).ownBlock∨v'.ownBlock=some (X.alloc o).heap.size)→aaP D w eb tag R (.returned .nilIface) (w7.setCell ⟨eb,5,none⟩ v')):=by
      intro X v' w7 o hX own7 hg7 hat7
      have hEX:EB D X eb tag ats hs av (.slice aad hs.length acap) hc∧VL X (fun g=>D g∧g<eb) hm (.iface tm ym)∧Below w.heap.size w X:=by
       rcases hX with rfl | rfl
       ·exact⟨hE4,hv4,B4⟩
       ·exact⟨hE4.below (Below.refl _ _).drew,hv4.below (Below.refl _ _).drew,B4.drew⟩
      obtain⟨h1,h2⟩:=hEX.1.addH (a:=⟨hb.data.toList,hm,ht⟩) rfl hEX.2.1 own7 hg7 hat7
      exact⟨(hEX.2.2.mono (by omega)).trans h2,Or.inl ⟨_,_,_,_,_,HR.out,rfl,h1⟩⟩
     clear hE3 hE4 HR e4 e5 fz gz FIN hvm hv4
     go_region_law (go_loud (obtain⟨i0,hi,hz0,hz1,hz2⟩:=info_parts Tryz.infoNHandler;refine step_app_own ?_ (.tmp 42) (.tmp 44) 221 ?_ (eb+1) 160 i0 (.agg #[.string ⟨#[]⟩,.nilIface,.bool false]) 3 40 underlying221 hi hz0 hz1 hz2 rfl (by decide) (.slice aad hs.length acap) hs.length hc ?_ ?_ ⟨X3.heap.size,0,none⟩ 1 1 [.string hb,.iface tm ym,.bool ht] ?_ rfl ?_ ?_ (by unfold maxLen;omega) (by omega) ?_ ?_;(rfl);(rfl);(rfl);(first | exact ownH.alloc _ | exact (ownH.drew).alloc _ | exact (ownH.alloc _).drew);(rfl);(first | exact cell_threeN X3 _ _ _ _ | exact cell_threeN X3.drew _ _ _ _);(intro u hu;simp at hu;rcases hu with h | h | h<;>(subst h;rfl));(simp;omega);clear hi hz0 hz1 hz2;intro v' w7 own7 hg7 hat7;obtain⟨vad2,vcap2,rfl⟩:=owns_slice own7;replace hg7:=undrewN hg7;obtain⟨e7,f7⟩:=grown_cell hg7 hnr g4 f4))
     all_goals (go_wp2_with fail)
     all_goals go_ret
     all_goals first
      | exact CL.out X3 _ _ _ (Or.inl rfl) own7 hg7 hat7
      | exact CL.out X3.drew _ _ _ (Or.inr rfl) own7 hg7 hat7
    ·have hE3:=hE2.below hb3
     obtain⟨e4,e5,fz,hlt3⟩:=hE3.facts
     obtain⟨aad,acap,rfl⟩:=owns_slice hE3.ownH
     have B3:=B2.trans (hb3.mono B2.size)
     have HO:Aside (R=none):=by
      show _=_
      rw[HN,hot]
      rfl
     clear CA hE2 HN hot
     go_wp2_with fail
     have hE4:=hE3.below (below1 w3 (Obj.cells #[.string ⟨#[]⟩,.nilIface,.bool false] 160))
     obtain⟨_,g4,gz,hlt4⟩:=hE4.facts
     have B4:=B3.alloc B3.size (Obj.cells #[.string ⟨#[]⟩,.nilIface,.bool false] 160)
     have b0:(w3.alloc (Obj.cells #[.string ⟨#[]⟩,.nilIface,.bool false] 160)).cell? ⟨w3.heap.size,0,none⟩=some (.string ⟨#[]⟩):=by simp
     have b1:(w3.alloc (Obj.cells #[.string ⟨#[]⟩,.nilIface,.bool false] 160)).cell? ⟨w3.heap.size,1,none⟩=some .nilIface:=by simp
     have b2:(w3.alloc (Obj.cells #[.string ⟨#[]⟩,.nilIface,.bool false] 160)).cell? ⟨w3.heap.size,2,none⟩=some (.bool false):=by simp
     generalize w3.alloc (Obj.cells #[.string ⟨#[]⟩,.nilIface,.bool false] 160)=X3 at *
     have ownH:=hE4.ownH
     have f4:=gz 5
     have hnr:some eb≠(Value.slice aad hs.length acap).ownBlock:=fun e=>by have:=(ownH.lt eb e.symm).1;omega
     have CL:Hid (∀(X:World) (v':Value) (w7:World) (o:Obj),(X=X3∨X=X3.drew)→w7.ownsRow (eb+1) 160 3 v' (hs.length+1) (hc++[.string ⟨#[]⟩,.nilIface,.bool false])→(X.alloc o).grownBy w7 (Value.slice aad hs.length acap).ownBlock→(v'.ownBlock=(Value.slice aad hs.length acap).ownBlock∨v'.ownBlock=some (X.alloc o).heap.size)→aaP D w eb tag R (.returned (whyB b)) (w7.setCell ⟨eb,5,none⟩ v')):=by
      intro X v' w7 o hX own7 hg7 hat7
      have hEX:eb<X.heap.size∧Below w.heap.size w X:=by
       rcases hX with rfl | rfl
       ·exact⟨hlt4,B4⟩
       ·exact⟨hlt4,B4.drew⟩
      exact⟨(hEX.2.mono (by omega)).trans (grow_below hEX.1 hg7 (fun g e=>(ownH.lt g e).1) v'),Or.inr ⟨HO.out,b,rfl⟩⟩
     clear hE3 hE4 HO e4 e5 fz gz FIN
     go_region_law (go_loud (obtain⟨i0,hi,hz0,hz1,hz2⟩:=info_parts Tryz.infoNHandler;refine step_app_own ?_ (.tmp 42) (.tmp 44) 221 ?_ (eb+1) 160 i0 (.agg #[.string ⟨#[]⟩,.nilIface,.bool false]) 3 40 underlying221 hi hz0 hz1 hz2 rfl (by decide) (.slice aad hs.length acap) hs.length hc ?_ ?_ ⟨X3.heap.size,0,none⟩ 1 1 [.string ⟨#[]⟩,.nilIface,.bool false] ?_ rfl ?_ ?_ (by unfold maxLen;omega) (by omega) ?_ ?_;(rfl);(rfl);(rfl);(first | exact ownH.alloc _ | exact (ownH.drew).alloc _ | exact (ownH.alloc _).drew);(rfl);(first | exact cell_threeN X3 _ _ _ _ | exact cell_threeN X3.drew _ _ _ _);(intro u hu;simp at hu;rcases hu with h | h | h<;>(subst h;rfl));(simp;omega);clear hi hz0 hz1 hz2;intro v' w7 own7 hg7 hat7;obtain⟨vad2,vcap2,rfl⟩:=owns_slice own7;replace hg7:=undrewN hg7;obtain⟨e7,f7⟩:=grown_cell hg7 hnr g4 f4))
     all_goals (go_wp2_with fail)
     all_goals go_ret
     all_goals first
      | exact CL.out X3 _ _ _ (Or.inl rfl) own7 hg7 hat7
      | exact CL.out X3.drew _ _ _ (Or.inr rfl) own7 hg7 hat7
   ·have HN:=N2.out _ _ ho hon
    have hsne:(s.toList==[111,110])=false:=by
     rw[ByteArray.toList_eq]
     simpa using hon
    have CA:=attributeOf_any _ s r ra rc rcs w2 (by unfold maxLen;omega) hsg hrv
    clear CH CI N0 N1 N2 HW ho hsg hrv hE
    go_wp2_with fail
    refine CA.mono ?_
    rintro e w3 ⟨hb3,⟨t,hot,rfl⟩ | ⟨hot,b,rfl⟩⟩
    ·have hE3:=hE2.below hb3
     obtain⟨e4,e5,fz,hlt3⟩:=hE3.facts
     obtain⟨aad,acap,rfl⟩:=owns_slice hE3.ownA
     have B3:=B2.trans (hb3.mono B2.size)
     have HR:Aside (R=some (atP (ats++[(s,t)]),hs)):=by
      show _=_
      rw[HN,hot]
      simp[atP]
     clear CA hE2 HN hot
     go_wp2_with fail
     have hE4:=hE3.below (below1 w3 (Obj.cells #[.string s,.string t] 270))
     obtain⟨g4,_,gz,hlt4⟩:=hE4.facts
     have B4:=B3.alloc B3.size (Obj.cells #[.string s,.string t] 270)
     have b0:(w3.alloc (Obj.cells #[.string s,.string t] 270)).cell? ⟨w3.heap.size,0,none⟩=some (.string s):=by simp
     have b1:(w3.alloc (Obj.cells #[.string s,.string t] 270)).cell? ⟨w3.heap.size,1,none⟩=some (.string t):=by simp
     generalize w3.alloc (Obj.cells #[.string s,.string t] 270)=X3 at *
     have ownA:=hE4.ownA
     have f4:=gz 4
     have hnr:some eb≠(Value.slice aad ats.length acap).ownBlock:=fun e=>by have:=(ownA.lt eb e.symm).1;omega
     have CL:Hid (∀(X:World) (v':Value) (w7:World) (o:Obj),(X=X3∨X=X3.drew)→w7.ownsRow (eb+1) 270 2 v' (ats.length+1) (atC ats++[.string s,.string t])→(X.alloc o).grownBy w7 (Value.slice aad ats.length acap).ownBlock→(v'.ownBlock=(Value.slice aad ats.length acap).ownBlock∨v'.ownBlock=some (X.alloc o).heap.size)→aaP D w eb tag R (.returned .nilIface) (w7.setCell ⟨eb,4,none⟩ v')):=by
      intro X v' w7 o hX own7 hg7 hat7
      have hEX:EB D X eb tag ats hs (.slice aad ats.length acap) hv hc∧Below w.heap.size w X:=by
       rcases hX with rfl | rfl
       ·exact⟨hE4,B4⟩
       ·exact⟨hE4.below (Below.refl _ _).drew,B4.drew⟩
      obtain⟨h1,h2⟩:=hEX.1.addA own7 hg7 hat7
      exact⟨(hEX.2.mono (by omega)).trans h2,Or.inl ⟨_,_,_,_,_,HR.out,rfl,h1⟩⟩
     clear hE3 hE4 HR e4 e5 fz gz FIN
     go_region_law (go_loud (obtain⟨i0,hi,hz0,hz1,hz2⟩:=info_parts Tryz.infoNAttr;refine step_app_own ?_ (.tmp 59) (.tmp 61) 220 ?_ (eb+1) 270 i0 (.agg #[.string ⟨#[]⟩,.string ⟨#[]⟩]) 2 32 underlying220 hi hz0 hz1 hz2 rfl (by decide) (.slice aad ats.length acap) ats.length (atC ats) ?_ ?_ ⟨X3.heap.size,0,none⟩ 1 1 [.string s,.string t] ?_ rfl ?_ ?_ (by unfold maxLen;omega) (by omega) ?_ ?_;(rfl);(rfl);(rfl);(first | exact ownA.alloc _ | exact (ownA.drew).alloc _ | exact (ownA.alloc _).drew);(rfl);(first | exact cell_two_new X3 _ _ _ | exact cell_two_new X3.drew _ _ _);(intro u hu;simp at hu;rcases hu with h | h<;>(subst h;rfl));(simp;omega);clear hi hz0 hz1 hz2;intro v' w7 own7 hg7 hat7;obtain⟨vad2,vcap2,rfl⟩:=owns_slice own7;replace hg7:=undrewN hg7;obtain⟨e7,f7⟩:=grown_cell hg7 hnr g4 f4))
     all_goals (go_wp2_with fail)
     all_goals go_ret
     all_goals first
      | exact CL.out X3 _ _ _ (Or.inl rfl) own7 hg7 hat7
      | exact CL.out X3.drew _ _ _ (Or.inr rfl) own7 hg7 hat7
    ·have hE3:=hE2.below hb3
     obtain⟨e4,e5,fz,hlt3⟩:=hE3.facts
     obtain⟨aad,acap,rfl⟩:=owns_slice hE3.ownA
     have B3:=B2.trans (hb3.mono B2.size)
     have HO:Aside (R=none):=by
      show _=_
      rw[HN,hot]
      rfl
     clear CA hE2 HN hot
     go_wp2_with fail
     have hE4:=hE3.below (below1 w3 (Obj.cells #[.string ⟨#[]⟩,.string ⟨#[]⟩] 270))
     obtain⟨g4,_,gz,hlt4⟩:=hE4.facts
     have B4:=B3.alloc B3.size (Obj.cells #[.string ⟨#[]⟩,.string ⟨#[]⟩] 270)
     have b0:(w3.alloc (Obj.cells #[.string ⟨#[]⟩,.string ⟨#[]⟩] 270)).cell? ⟨w3.heap.size,0,none⟩=some (.string ⟨#[]⟩):=by simp
     have b1:(w3.alloc (Obj.cells #[.string ⟨#[]⟩,.string ⟨#[]⟩] 270)).cell? ⟨w3.heap.size,1,none⟩=some (.string ⟨#[]⟩):=by simp
     generalize w3.alloc (Obj.cells #[.string ⟨#[]⟩,.string ⟨#[]⟩] 270)=X3 at *
     have ownH:=hE4.ownA
     have f4:=gz 4
     have hnr:some eb≠(Value.slice aad ats.length acap).ownBlock:=fun e=>by have:=(ownH.lt eb e.symm).1;omega
     have CL:Hid (∀(X:World) (v':Value) (w7:World) (o:Obj),(X=X3∨X=X3.drew)→w7.ownsRow (eb+1) 270 2 v' (ats.length+1) (atC ats++[.string ⟨#[]⟩,.string ⟨#[]⟩])→(X.alloc o).grownBy w7 (Value.slice aad ats.length acap).ownBlock→(v'.ownBlock=(Value.slice aad ats.length acap).ownBlock∨v'.ownBlock=some (X.alloc o).heap.size)→aaP D w eb tag R (.returned (whyB b)) (w7.setCell ⟨eb,4,none⟩ v')):=by
      intro X v' w7 o hX own7 hg7 hat7
      have hEX:eb<X.heap.size∧Below w.heap.size w X:=by
       rcases hX with rfl | rfl
       ·exact⟨hlt4,B4⟩
       ·exact⟨hlt4,B4.drew⟩
      exact⟨(hEX.2.mono (by omega)).trans (grow_below hEX.1 hg7 (fun g e=>(ownH.lt g e).1) v'),Or.inr ⟨HO.out,b,rfl⟩⟩
     clear hE3 hE4 HO e4 e5 fz gz FIN
     go_region_law (go_loud (obtain⟨i0,hi,hz0,hz1,hz2⟩:=info_parts Tryz.infoNAttr;refine step_app_own ?_ (.tmp 59) (.tmp 61) 220 ?_ (eb+1) 270 i0 (.agg #[.string ⟨#[]⟩,.string ⟨#[]⟩]) 2 32 underlying220 hi hz0 hz1 hz2 rfl (by decide) (.slice aad ats.length acap) ats.length (atC ats) ?_ ?_ ⟨X3.heap.size,0,none⟩ 1 1 [.string ⟨#[]⟩,.string ⟨#[]⟩] ?_ rfl ?_ ?_ (by unfold maxLen;omega) (by omega) ?_ ?_;(rfl);(rfl);(rfl);(first | exact ownH.alloc _ | exact (ownH.drew).alloc _ | exact (ownH.alloc _).drew);(rfl);(first | exact cell_two_new X3 _ _ _ | exact cell_two_new X3.drew _ _ _);(intro u hu;simp at hu;subst hu;rfl);(simp;omega);clear hi hz0 hz1 hz2;intro v' w7 own7 hg7 hat7;obtain⟨vad2,vcap2,rfl⟩:=owns_slice own7;replace hg7:=undrewN hg7;obtain⟨e7,f7⟩:=grown_cell hg7 hnr g4 f4))
     all_goals (go_wp2_with fail)
     all_goals go_ret
     all_goals first
      | exact CL.out X3 _ _ _ (Or.inl rfl) own7 hg7 hat7
      | exact CL.out X3.drew _ _ _ (Or.inr rfl) own7 hg7 hat7
  ·have HO:Hid (R=none):=N0.out ho
   have B2:=B1.trans (hb2.mono B1.size)
   clear CH CI N0 N1 N2 HW ho hE
   go_wp2_with fail
   go_ret
   exact FIN.out _ _ HO.out B2
end Go.Proofs.YtifhgjpglicjbaaGreatDoor
