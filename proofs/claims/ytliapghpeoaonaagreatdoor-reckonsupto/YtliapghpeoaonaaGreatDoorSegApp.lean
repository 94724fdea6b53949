/-
  append of a piece of a row onto an owned one.
-/
import Derived.Test.YtliapghpeoaonaaGreatDoorTouch
import Derived.OwnWalk
import Derived.Maps.AppendAt
import Derived.Deep.RegionLawGrows
import Derived.Test.YtliapghpeoaonaaGreatDoorVaI
import Derived.Test.YtliapghpeoaonaaGreatDoorFaB
import Derived.Test.YtliapghpeoaonaaGreatDoorVal
import Derived.Shelf.SlicesE.Clone
import Derived.Shelf.Spec.SlicesGrow
import Derived.Laws.OwnMore
set_option maxHeartbeats 4000000
set_option maxRecDepth 8000
namespace Go.Proofs.YtliapghpeoaonaaGreatDoor
open Go.Proofs.Tryz
open Go.RowKit
theorem Zfl (P:Program)(w:World)(t ty e:TypeId)(i:TypeInfo)(ht:P.underlying t=some (.slice e))(hi:P.info? e=some i)(b ad:Option Addr)(n c c2:Nat)(hc:n≤c):
  (Builtin.append_ #[t,t] ty #[.slice b n c,.slice ad 0 c2]).run P w=.ok (.slice b n c) w:=by
 cases b<;>cases ad<;>simp[Builtin.append_,run_underlying ht,sizeOf,typeInfo,hi,Builtin.lenOf,Builtin.firstCells,loadCells,go_sem,hc,storeCells,loadCellsFrom]
theorem Zip (P:Program)(w:World)(D:Nat→Prop)(base:Nat)(t ty e:TypeId)(i:TypeInfo)(z:Value)(size bytes:Nat)(ht:P.underlying t=some (.slice e))(hi:P.info? e=some i)(hz:i.zero=some z)
  (hsize:i.size=size) (hby:i.bytes=bytes) (hzs:z.cells.size=size) (hsz:0<size) (v:Value) (n:Nat) (xs:List Value) (hown:w.ownsRow base e size v n xs) (y:Value) (m:Nat) (ys:List Value) (hseg:Zar w D e size y m ys) (h1:∀u∈ys,u.oneCell'=true)
  (h63:n+m≤maxLen) (hbytes:(n+m)*bytes≤140737488355328) (hbase:base≤w.heap.size) :
  ∃v' w',(Builtin.append_ #[t,t] ty #[v,y]).run P w=.ok v' w'∧w'.ownsRow base e size v' (n+m) (xs++ys)∧w.grownBy w' v.ownBlock∧(v'.ownBlock=v.ownBlock∨v'.ownBlock=some w.heap.size):=by
 rcases hseg.2 with ⟨⟨ad,cap,rfl⟩,h0⟩ | ⟨g,o,cap,cur,rfl,_,hh,hc,hm,hcs,htk⟩
 ·have hys:ys=[]:=List.eq_nil_of_length_eq_zero (by rw[hseg.1,h0];simp)
  have hx:∃b c,v=.slice b n c∧n≤c:=by
   rcases hown.2 with ⟨hv,hn0⟩ | ⟨g,c,cur,hv,_,_,hc,_⟩
   ·exact⟨none,0,by rw[hn0];exact hv,by omega⟩
   ·exact⟨_,c,hv,hc⟩
  obtain⟨b,c,hv,hcn⟩:=hx
  refine⟨v,w,?_,?_,⟨rfl,rfl,rfl,Nat.le_refl _,fun _ _ _=>rfl⟩,Or.inl rfl⟩
  ·rw[hv];exact Zfl P w t ty e i ht hi b ad n c cap hcn
  ·rw[h0,hys,Nat.add_zero,List.append_nil];exact hown
 ·obtain⟨v',w',h2,h3,h4,_,h5⟩:=run_append_own_at (P:=P) w base t ty e i z size bytes ht hi hz hsize hby hzs hsz v n xs hown ⟨g,o,none⟩ m cap ys hseg.1 (fun j u hj=>by
   have hjl:=(List.getElem?_eq_some_iff.1 hj).1
   have hcell:w.cell? ⟨g,o+j,none⟩=cur[o+j]?:=by unfold World.cell?;rw[hh];rfl
   rw[show ((⟨g,o,none⟩:Addr).add j)=⟨g,o+j,none⟩ by cases j<;>simp[Addr.add],hcell,←Array.getElem?_toList]
   rw[←htk] at hj
   rw[List.getElem?_take] at hj
   split at hj
   ·rw[List.getElem?_drop] at hj;exact hj
   ·cases hj) h1 h63 hbytes hbase
  exact⟨v',w',h2,h3,h4,h5⟩
theorem Zbs {P:Program}{w:World}{D:Nat→Prop}{ops:Array Oper}{rest:List Oper}{o:Oper}{a:Act}{Q:Exit→Act→World→Prop}(hgd:o.guard=none)(s x:Operand)(t:TypeId)
  (ho:o.op=.call { callee:=.builtin .append,args:=#[s,x],argTypes:=#[t,t] })
  (base:Nat) (e:TypeId) (i:TypeInfo) (z:Value) (size bytes:Nat) (ht:P.underlying t=some (.slice e)) (hi:P.info? e=some i) (hz:i.zero=some z)
  (hsize:i.size=size) (hby:i.bytes=bytes) (hzs:z.cells.size=size) (hsz:0<size)
  (v:Value) (n:Nat) (xs:List Value) (hs:a.eval s=v) (hown:w.ownsRow base e size v n xs)
  (y:Value) (m:Nat) (ys:List Value) (hx:a.eval x=y) (hseg:Zar w D e size y m ys) (h1:∀u∈ys,u.oneCell'=true)
  (h63:n+m≤maxLen) (hbytes:(n+m)*bytes≤140737488355328) (hbase:base≤w.heap.size)
  (h:∀v' w',w'.ownsRow base e size v' (n+m) (xs++ys)→w.grownBy w' v.ownBlock→(v'.ownBlock=v.ownBlock∨v'.ownBlock=some w.heap.size)→wpList P ops Q rest (a.put o.dst v') w') :
  wpList P ops Q (o::rest) a w:=by
 refine wpList_plain hgd fun K hK=>?_
 obtain⟨v',w',hr,h2,h3,h4⟩:=Zip P w D base t o.type e i z size bytes ht hi hz hsize hby hzs hsz v n xs hown y m ys hseg h1 h63 hbytes hbase
 unfold Oper.wp execOp
 simp only[ho,resolve,invoke,builtin,Sem.run_bind,Sem.run_pure,Result.andThen_ok,List.map_toArray,List.map_cons,List.map_nil,hs,hx,hr]
 exact hK _ _ (h v' w' h2 h3 h4)
theorem Zjf {P:Program}{w:World}{ops:Array Oper}{rest:List Oper}{o:Oper}{a:Act}{Q:Exit→Act→World→Prop}(hgd:o.guard=none)(s x:Operand)(t:TypeId)
  (ho:o.op=.call { callee:=.builtin .append,args:=#[s,x],argTypes:=#[t,t] })
  (e:TypeId) (i:TypeInfo) (ht:P.underlying t=some (.slice e)) (hi:P.info? e=some i) (b ad:Option Addr) (n c c2:Nat) (hc:n≤c) (hs:a.eval s=.slice b n c) (hx:a.eval x=.slice ad 0 c2)
  (h:wpList P ops Q rest (a.put o.dst (.slice b n c)) w) :
  wpList P ops Q (o::rest) a w:=by
 refine wpList_plain hgd fun K hK=>?_
 have hr:=Zfl P w t o.type e i ht hi b ad n c c2 hc
 unfold Oper.wp execOp
 simp only[ho,resolve,invoke,builtin,Sem.run_bind,Sem.run_pure,Result.andThen_ok,List.map_toArray,List.map_cons,List.map_nil,hs,hx,hr]
 exact hK _ _ h
theorem Zl9 {P:Program}{ops:Array Oper}{o:Oper}{a:Act}{w:World}{K:Act→World→Prop}{Q:Exit→Act→World→Prop}{E:Prop}
  (hg:o.guard=none) (s x:Operand) (t:TypeId) (hop:o.op=Op.call { callee:=Callee.builtin Builtin.append,args:=#[s,x],argTypes:=#[t,t] })
  (e:TypeId) (i:TypeInfo) (ht:P.underlying t=some (.slice e)) (hi:P.info? e=some i) (b ad:Option Addr) (n c c2:Nat) (hc:n≤c) (hs:a.eval s=.slice b n c) (hx:a.eval x=.slice ad 0 c2)
  (hK:K (a.put o.dst (.slice b n c)) w) :
  if Region.wanted o (yielded ops a.tmps)=true then Oper.wp P o a w K Q else E:=by
 have hw:Region.wanted o (yielded ops a.tmps)=true:=by simp[Region.wanted,hg]
 rw[if_pos hw]
 have hr:=Zfl P w t o.type e i ht hi b ad n c c2 hc
 unfold Oper.wp
 simp[execOp,hop,resolve,invoke,builtin,hs,hx,hr,Result.andThen]
 exact hK
theorem Zd4 {P:Program}{ops:Array Oper}{o:Oper}{a:Act}{w:World}{D:Nat→Prop}{K:Act→World→Prop}{Q:Exit→Act→World→Prop}{E:Prop}
  (hg:o.guard=none) (s x:Operand) (t:TypeId) (hop:o.op=Op.call { callee:=Callee.builtin Builtin.append,args:=#[s,x],argTypes:=#[t,t] })
  (base:Nat) (e:TypeId) (i:TypeInfo) (z:Value) (size bytes:Nat) (h1:P.underlying t=some (.slice e)) (h2:P.info? e=some i) (h3:i.zero=some z) (h4:i.size=size) (h5:i.bytes=bytes) (h6:z.cells.size=size) (h7:0<size)
  (v:Value) (n:Nat) (xs:List Value) (hs:a.eval s=v) (hown:w.ownsRow base e size v n xs)
  (y:Value) (m:Nat) (ys:List Value) (hx:a.eval x=y) (hseg:Zar w D e size y m ys) (h1c:∀u∈ys,u.oneCell'=true)
  (b1:n+m≤maxLen) (b2:(n+m)*bytes≤140737488355328) (hbase:base≤w.heap.size)
  (hK:∀v' w',w'.ownsRow base e size v' (n+m) (xs++ys)→w.grownBy w' v.ownBlock→(v'.ownBlock=v.ownBlock∨v'.ownBlock=some w.heap.size)→K (a.put o.dst v') w') :
  if Region.wanted o (yielded ops a.tmps)=true then Oper.wp P o a w K Q else E:=by
 have hw:Region.wanted o (yielded ops a.tmps)=true:=by simp[Region.wanted,hg]
 rw[if_pos hw]
 obtain⟨v',w',hrun,r1,r2,r4⟩:=Zip P w D base t o.type e i z size bytes h1 h2 h3 h4 h5 h6 h7 v n xs hown y m ys hseg h1c b1 b2 hbase
 unfold Oper.wp
 simp[execOp,hop,resolve,invoke,builtin,hs,hx,hrun,Result.andThen]
 exact hK v' w' r1 r2 r4
theorem RVs.one_cell {w:World}{D:Nat→Prop}:∀{l:List PV} {cs:List Value},RVs w D l cs→∀u∈cs,u.oneCell'=true
 | [],cs,h,u,hu=>by rw[RVs] at h;subst h;simp at hu
 | v::r,cs,h,u,hu=>by
  rw[RVs] at h
  obtain⟨a,b,c,d,cr,rfl,h2,h3⟩:=h
  obtain⟨k,z,s,ad,n,cap,e,_⟩:=h2.parts
  simp only[Value.agg.injEq,Array.mk.injEq,List.cons.injEq,and_true] at e
  obtain⟨rfl,rfl,rfl,rfl⟩:=e
  simp only[List.mem_cons] at hu
  rcases hu with rfl | rfl | rfl | rfl | hu
  ·rfl
  ·rfl
  ·rfl
  ·rfl
  ·exact RVs.one_cell h3 u hu
end Go.Proofs.YtliapghpeoaonaaGreatDoor
namespace Go.Proofs.YtliapghpeoaonaaGreatDoor
open Go.Proofs.Tryz
open Go.RowKit
attribute [local go_sem ↓] Go.wp_at_zero Go.wp_at_succ
def SC (w:World)(D:Nat→Prop):Env→Value→Prop
 | [],y=>y=.pointer none
 | nv::s,y=>∃(b:Nat) (nb:ByteArray) (x z:Value),y=.pointer (some ⟨b,0,none⟩)∧D b∧w.heap[b]?=some (.cells #[.string nb,x,z] 382)∧nb.data.toList=nv.1∧VL w D nv.2 x∧SC w D s z
theorem SC.map {w w':World}{D D':Nat→Prop}(hR:∀sl n vs,Zar w D 81 1 sl n vs→Zar w' D' 81 1 sl n vs)(hB:∀b o,D b→w.heap[b]?=some o→D' b∧w'.heap[b]?=some o):∀{s:Env} {y:Value},SC w D s y→SC w' D' s y
 | [],y,h=>by rw[SC] at h ⊢;exact h
 | nv::s,y,h=>by
  rw[SC] at h ⊢
  obtain⟨b,nb,x,z,h1,h2,h3,h4,h5,h6⟩:=h
  exact⟨b,nb,x,z,h1,(hB b _ h2 h3).1,(hB b _ h2 h3).2,h4,h5.map hR,SC.map hR hB h6⟩
theorem SC.weaken {w:World}{D D':Nat→Prop}{s:Env}{y:Value}(h:SC w D s y)(hD:∀k,D k→D' k):SC w D' s y:=h.map (fun _ _ _ g=>g.weaken hD) fun b _o h1 h2=>⟨hD b h1,h2⟩
theorem SC.keep {w w':World}{D:Nat→Prop}{s:Env}{y:Value}(h:SC w D s y)(hS:Z33 D w w'):SC w' (fun k=>D k∧k<w.heap.size) s y:=h.map (fun _ _ _ g=>g.keep hS) fun b o h1 h2=>⟨⟨h1,Zag h2⟩,by rw[hS b h1 (Zag h2)];exact h2⟩
theorem SC.touch {w w':World}{D S:Nat→Prop}{s:Env}{y:Value}(h:SC w D s y)(ht:Zaa S w w')(hD:∀k,D k→¬ S k):SC w' D s y:=(h.keep fun k hk hlt=>ht.block k hlt (hD k hk)).weaken fun _k hk=>hk.1
theorem SC.below {w w':World}{D:Nat→Prop}{s:Env}{y:Value}(h:SC w D s y)(hb:Below w.heap.size w w'):SC w' D s y:=(h.keep fun k _ hlt=>hb.block k hlt).weaken fun _k hk=>hk.1
theorem SC.cons {_w w':World}{D:Nat→Prop}{s:Env}{y x:Value}{b:Nat}{nb:ByteArray}{n:List UInt8}{v:PV}(h:SC w' D s y)(hn:nb.data.toList=n)(hv:VL w' D v x)(hD:D b)(hb:w'.heap[b]?=some (.cells #[.string nb,x,y] 382)):SC w' D ((n,v)::s) (.pointer (some ⟨b,0,none⟩)):=by
 rw[SC]
 exact⟨b,nb,x,y,rfl,hD,hb,hn,hv,h⟩
theorem Zpn (y x:Value)(nb:ByteArray)(w:World)(hy:∃o,y=.pointer o)(hx:∃t z,x=.iface t z):
  Calls prog 151 #[y,.string nb,x] w fun e w'=>Below w.heap.size w w'∧∃b,w.heap.size≤b∧e=.returned (.pointer (some ⟨b,0,none⟩))∧w'.heap[b]?=some (.cells #[.string nb,x,y] 382):=by
 obtain⟨o,rfl⟩:=hy
 obtain⟨t,z,rfl⟩:=hx
 go_enter func151,ntmps151
 go_wp2
 go_ret
 exact⟨Zab w _,_,Nat.le_refl _,rfl,heap_alloc_new _ _⟩
theorem Z2u {n:List UInt8}{v:PV}{s:Env}{m:List UInt8}(h:(n==m)=true):Zey ((n,v)::s) m=some v:=by simp[Zey,List.find?,h]
theorem Zza {n:List UInt8}{v:PV}{s:Env}{m:List UInt8}(h:(n==m)=false):Zey ((n,v)::s) m=Zey s m:=by simp[Zey,List.find?,h]
def Zcx (D:Nat→Prop)(w:World)(o:Option PV)(e:Ending)(w':World):Prop :=
 Below w.heap.size w w'∧((∃v x,o=some v∧e=.returned (.tuple #[x,.nilIface])∧VL w' D v x)∨(o=none∧∃u f,Zii f∧e=.returned (.tuple #[u,f])))
theorem Zkh {D:Nat→Prop}{w w':World}{o:Option PV}{v:PV}{x:Value}(hb:Below w.heap.size w w')(ho:o=some v)(hv:VL w' D v x):Zcx D w o (.returned (.tuple #[x,.nilIface])) w':=⟨hb,Or.inl ⟨v,x,ho,rfl,hv⟩⟩
theorem Zhd {D:Nat→Prop}{w w':World}{o:Option PV}{u f:Value}(hb:Below w.heap.size w w')(ho:o=none)(hf:Zii f):Zcx D w o (.returned (.tuple #[u,f])) w':=⟨hb,Or.inr ⟨ho,u,f,hf,rfl⟩⟩
theorem Zb9 (b:ByteArray):Zii (Zm2 b):=Or.inl ⟨b,rfl⟩
theorem Zx2 (D:Nat→Prop)(s:Env)(y:Value)(nm:ByteArray)(w:World)(h:SC w D s y):
  Calls prog 229 #[y,.string nm] w (Zcx D w (Zey s nm.data.toList)):=by
 obtain⟨R,hR⟩:∃R,R=Zey s nm.data.toList:=⟨_,rfl⟩
 have HR:Aside (R=Zey s nm.data.toList):=hR
 rw[←hR]
 clear hR
 go_enter func229,ntmps229
 go_wp2_with fail
 go_loopg [0] s.length (fun gh iv wr=>∃rest,gh=rest.length∧SC wr D rest iv∧Below w.heap.size w wr∧Aside (R=Zey rest nm.data.toList))
 case atStart=>exact⟨s,rfl,h,Below.refl _ _,HR⟩
 case round =>
  obtain⟨rest,rfl,hs,hb,hP⟩:=hrel
  cases rest with
  | nil =>
   rw[SC] at hs
   subst hs
   have hP2:=hP.out
   have:Zey [] nm.data.toList=none:=rfl
   rw[this] at hP2
   subst hP2
   go_wp2
   go_ret2
   exact Zhd hb rfl (Zb9 _)
  | cons nv rest =>
   obtain⟨n,v⟩:=nv
   rw[SC] at hs
   obtain⟨b,nb,x,z,rfl,hDb,hbl,hn,hv,hs2⟩:=hs
   obtain⟨tx,yx,rfl⟩:=hv.iface
   have c0:wr.cell? ⟨b,0,none⟩=some (.string nb):=by unfold World.cell?;rw[hbl];rfl
   have c1:wr.cell? ⟨b,1,none⟩=some (.iface tx yx):=by unfold World.cell?;rw[hbl];rfl
   have c2:wr.cell? ⟨b,2,none⟩=some z:=by unfold World.cell?;rw[hbl];rfl
   simp only at hn hv
   cases he:(nb.toList==nm.toList) with
   | true =>
    have hP2:Aside (R=some v):=by
     show _=_
     rw[hP.out,Z2u (by rw[←hn,←ByteArray.toList_eq,←ByteArray.toList_eq];exact he)]
    clear hP hs2
    go_wp2
    go_ret2
    exact Zkh hb hP2.out hv
   | false =>
    have hP2:Aside (R=Zey rest nm.data.toList):=by
     show _=_
     rw[hP.out,Zza (by rw[←hn,←ByteArray.toList_eq,←ByteArray.toList_eq];exact he)]
    clear hP
    go_wp2
    go_roundg rest.length
    case measure=>simp
    case rel=>exact⟨rest,rfl,hs2,hb,hP2⟩
end Go.Proofs.YtliapghpeoaonaaGreatDoor
namespace Go.Proofs.YtliapghpeoaonaaGreatDoor
open Go.Proofs.Tryz
open Go.RowKit Go.Shelf Go.Lib
attribute [local go_sem ↓] Go.wp_at_zero Go.wp_at_succ
def renV:Ren:=⟨fun k=>if k=41 then 281 else if k=4 then 288 else 0,fun k=>if k=0 then 0 else if k=3 then 3 else if k=4 then 4 else if k=9 then 9 else if k=20 then 20 else if k=22 then 82 else if k=23 then 81 else if k=25 then 81 else 0,fun _=>0⟩
theorem laysVC:SlLaysE0.n41 prog renV:=by
 constructor
 all_goals first | kernel_rfl | (intro w;kernel_rfl) | exact⟨ "slices.Clone[[]stagehand/value.Value,stagehand/value.Value]", by decide +kernel,by kernel_rfl⟩
theorem laysVG:Lays8.n4 prog renV:=by
 constructor
 all_goals first | kernel_rfl | (intro w;kernel_rfl) | exact⟨ "slices.Grow[[]stagehand/value.Value,stagehand/value.Value]", by decide +kernel,by kernel_rfl⟩
theorem VLs.one_cell {w:World}{D:Nat→Prop}:∀{l:List PV} {cs:List Value},VLs w D l cs→∀u∈cs,u.oneCell'=true
 | [],cs,h,u,hu=>by rw[VLs] at h;subst h;simp at hu
 | v::r,cs,h,u,hu=>by
  rw[VLs] at h
  obtain⟨x,xs,rfl,h2,h3⟩:=h
  rcases List.mem_cons.1 hu with e | e
  ·obtain⟨t,y,rfl⟩:=h2.iface
   subst e
   rfl
  ·exact VLs.one_cell h3 u e
theorem Zxj (D:Nat→Prop)(l:List PV)(sl:Value)(cs:List Value)(w:World)(hn:0<l.length)(hl:l.length≤1000000)(hseg:Zar w D 81 1 sl l.length cs)(hvs:VLs w D l cs):
  Calls prog 281 #[sl] w fun e w'=>∃v',e=.returned v'∧w'.ownsRow w.heap.size 81 1 v' l.length cs∧Below w.heap.size w w':=by
 obtain⟨g,o,cap,rfl,hD,h1,h2,hc⟩:=hseg.cell hn
 obtain⟨i0,hi,hz0,hz1,hz2⟩:=info_parts Tryz.infoVVal
 have c:Calls prog 281 #[.slice (some ⟨g,o,none⟩) l.length cap] w _:=AnyE.slices_Clone laysVC i0 .nilIface 1 16 hi hz0 hz1 hz2 rfl (by decide) (fun w=>by show (Go.sizeOf 81).run _ _=_;simp[Go.sizeOf,typeInfo,hi,hz1]) g o l.length cap cs w hseg.1 (by unfold maxLen;omega) (by omega) (fun j u hj=>by
  have:j<l.length*1:=by rw[←hseg.1];exact (List.getElem?_eq_some_iff.1 hj).1
  rw[hc j this]
  exact hj) hvs.one_cell
 refine c.mono fun e w' ⟨v',h1,h2,_,h4⟩=>⟨v',h1,h2,h4⟩
theorem Zz5 (n:Nat)(w:World)(hn:n≤1000000):
  Calls prog 288 #[.slice none 0 0,.int .i64 ((n:Nat):Int)] w fun e w'=>∃v',e=.returned v'∧w'.ownsRow w.heap.size 81 1 v' 0 []∧Below w.heap.size w w':=by
 obtain⟨i0,hi,hz0,hz1,hz2⟩:=info_parts Tryz.infoVVal
 by_cases h0:n=0
 ·have c:Calls prog 288 #[.slice none 0 0,.int .i64 ((n:Nat):Int)] w _:=Any8.slices_Grow_room laysVG none 0 0 n w (Nat.le_refl _) (by omega) (by omega) (by omega)
  refine c.mono fun e w' ⟨h1,h2⟩=>⟨_,h1,?_,by rw[h2];exact Below.refl _ _⟩
  exact World.ownsRow_nil _ _ _ _
 ·have c:Calls prog 288 #[.slice none 0 0,.int .i64 ((n:Nat):Int)] w _:=Any8.slices_Grow_grow laysVG i0 .nilIface hi hz0 (by rw[hz1];decide) none 0 0 n [] w (Nat.le_refl _) (by omega) (by rw[hz2];omega) (by omega) (by simp) (fun _=>rfl) (fun a h=>by cases h)
  refine c.mono fun e w' ⟨h1,h2⟩=>⟨_,h1,?_,by rw[h2];exact (Below.drew (Below.refl _ w)).alloc (Nat.le_refl _) _⟩
  have hge:=grownCap_ge w (0+n) 0 (renV.t 25)
  have hle:=grownCap_le_maxLen w (0+n) 0 (renV.t 25) (by unfold maxLen;omega)
  refine⟨rfl,Or.inr ⟨w.heap.size,_,_,rfl,Nat.le_refl _,by rw[h2];exact heap_alloc_new w.drew _,Nat.zero_le _,hle,?_,by simp⟩⟩
  have hzc:(Value.nilIface).cells.size=1:=rfl
  rw[Nat.zero_add] at hge ⊢
  simp[Builtin.zeroCells,hzc]
  omega
theorem Zul (D:Nat→Prop)(n m:Nat)(sl sm:Value)(cs ds:List Value)(w:World)(b:Nat)(hn:n≤10000)(hm:m≤10000)(h1:Zar w D 81 1 sl n cs)(h2:Zar w D 81 1 sm m ds)(o1:∀u∈cs,u.oneCell'=true)(o2:∀u∈ds,u.oneCell'=true)(c0:w.cell? ⟨b,0,none⟩=some sl)(c1:w.cell? ⟨b,1,none⟩=some sm):
  Calls prog 287 #[.slice (some ⟨b,0,none⟩) 2 2] w fun e w'=>∃v',e=.returned v'∧w'.ownsRow w.heap.size 81 1 v' (n+m) (cs++ds)∧Below w.heap.size w w':=by
 have CG:Hid (∀X,Calls prog 288 #[.slice none 0 0,.int .i64 ((n:Int)+(m:Int))] X _):=fun X=>Zz5 (n+m) X (by omega)
 obtain⟨ad,cap,rfl⟩:=h1.slice
 obtain⟨ae,cae,rfl⟩:=h2.slice
 go_enter func287,ntmps287
 go_wp2_with fail
 refine wp_loop_rounds 3 ?_
 rw[rounds_succ]
 go_wp2_with fail
 rw[rounds_succ]
 go_wp2_with fail
 rw[rounds_succ]
 go_wp2_with (go_at_call 288;refine (CG.out _).mono ?_;rintro e w1 ⟨v1,rfl,own1,hb1⟩)
 obtain⟨a1,k1,rfl⟩:=Zaf own1
 have d0:=Below.cellv hb1 c0
 have d1:=Below.cellv hb1 c1
 have sz1:=hb1.size
 refine wp_loop_rounds 3 ?_
 rw[rounds_succ]
 go_wp2_with (at_builtin;(obtain⟨i0,hi,hz0,hz1,hz2⟩:=info_parts Tryz.infoVVal;refine Zbs rfl _ _ 82 rfl w.heap.size 81 i0 .nilIface 1 16 underlying82 hi hz0 hz1 hz2 rfl (by decide) _ _ _ rfl own1 _ n cs rfl (h1.below hb1) o1 (by unfold maxLen;omega) (by omega) sz1 ?_;intro v2 w2 own2 hg2 hob2))
 have hb2:Below w.heap.size w w2:=hb1.grown hg2 sz1 fun k hk=>(own1.lt k hk).1
 obtain⟨a2,k2,rfl⟩:=Zaf own2
 have e0:=Below.cellv hb2 c0
 have e1:=Below.cellv hb2 c1
 have sz2:=hb2.size
 clear d0 d1
 rw[rounds_succ]
 go_wp2_with (at_builtin;obtain⟨i0,hi,hz0,hz1,hz2⟩:=info_parts Tryz.infoVVal;refine Zbs rfl _ _ 82 rfl w.heap.size 81 i0 .nilIface 1 16 underlying82 hi hz0 hz1 hz2 rfl (by decide) _ _ _ rfl own2 _ m ds rfl (h2.below hb2) o2 (by unfold maxLen;omega) (by omega) sz2 ?_;intro v3 w3 own3 hg3 hob3)
 have hb3:Below w.heap.size w w3:=hb2.grown hg3 sz2 fun k hk=>(own2.lt k hk).1
 obtain⟨a3,k3,rfl⟩:=Zaf own3
 rw[rounds_succ]
 go_wp2_with fail
 go_ret
 exact⟨_,rfl,by simpa using own3,hb3⟩
theorem Zgf (ad:Option Addr)(n cap:Nat)(z:Int)(w:World)(h1:n≤cap∨n=0)(_h2:n≤1000000):
  Calls prog 173 #[.agg #[.slice ad n cap,.int .i64 z]] w fun e w'=>e=.returned (.slice ad n n)∧Below w.heap.size w w':=by
 have h3:n≤cap:=by omega
 have cc:∀w,Calls prog 212 #[.slice ad n cap] w fun e w'=>e=.returned (.slice ad n n)∧w'=w:=fun w=>by
  go_enter func212,ntmps212
  go_wp2
  go_ret
  exact⟨rfl,rfl⟩
 go_enter func173,ntmps173
 go_wp2_with (go_at_call 212;refine (cc _).mono ?_;rintro e w' ⟨rfl,rfl⟩)
 go_ret
 exact⟨rfl,Zab w _⟩
theorem Zar.capOr {w:World}{D:Nat→Prop}{e:TypeId}{size:Nat}{ad:Option Addr}{n cap:Nat}{xs:List Value}(h:Zar w D e size (.slice ad n cap) n xs):n≤cap∨n=0:=by
 rcases h.2 with ⟨_,h0⟩ | ⟨g,o,c,cur,hv,_,_,hc,_⟩
 ·exact Or.inr h0
 ·cases hv;exact Or.inl hc
theorem Zar.clip {w:World}{D:Nat→Prop}{e:TypeId}{size:Nat}{ad:Option Addr}{n cap:Nat}{xs:List Value}(h:Zar w D e size (.slice ad n cap) n xs):Zar w D e size (.slice ad n n) n xs:=by
 rcases h.2 with ⟨_,h0⟩ | ⟨g,o,c,cur,hv,hg,hh,hc,hm,hz,ht⟩
 ·subst h0;exact⟨h.1,Or.inl ⟨⟨_,_,rfl⟩,rfl⟩⟩
 ·cases hv
  exact⟨h.1,Or.inr ⟨g,o,n,cur,rfl,hg,hh,Nat.le_refl _,by omega,by have:=Nat.mul_le_mul_right size hc;omega,ht⟩⟩
theorem Zkf (w:World)(D:Nat→Prop)(z:Int):VL w D (.num z) (.iface 228 (.int .i64 z)):=by rw[VL]
theorem VL_txt (w:World)(D:Nat→Prop)(s:ByteArray):VL w D (.txt s.data.toList) (.iface 231 (.string s)):=by rw[VL];exact⟨s,rfl,rfl⟩
theorem Zhc:∀l:List PV,l.length≤Zbh l
 | []=>by simp
 | a::r=>by rw[Zbh,List.length_cons];have:=Zf1 a;have:=Zhc r;omega
attribute [local go_sem] Zdi Zdh Zdj Zdf Zde Zdg Zdl Zdk Zdm
theorem Zm4 (b:Bool)(w:World):Calls prog 277 #[.bool b] w fun e w'=>e=.returned (.iface 228 (.int .i64 (if b then 1 else 0)))∧w'=w:=by
 cases b
 all_goals
  go_enter func277,ntmps277
  go_wp2
  go_ret
  exact⟨rfl,rfl⟩
theorem Ztr (D:Nat→Prop)(v:PV)(x:Value)(w:World)(hv:VL w D v x)(hw:wtV v≤600):
  Calls prog 259 #[x] w (Zcx D w (Zn8 v)):=by
 cases v with
 | num z =>
  rw[VL] at hv
  subst hv
  go_enter func259,ntmps259
  go_wp2
  go_ret2
  exact Zhd (Below.refl _ _) rfl (Zb9 _)
 | txt b =>
  rw[VL] at hv
  obtain⟨s,hs,rfl⟩:=hv
  rw[wtV] at hw
  rw[←hs,Ziy] at hw
  have hsi:((s.size:Nat):Int)≤600:=by omega
  have HV:Aside (Zn8 (.txt b)=some (.num (s.size:Int))):=by show _=_;rw[Zn8,←hs,Ziy]
  go_enter func259,ntmps259
  go_wp2
  go_ret2
  exact Zkh (by first | exact Below.refl _ _ | exact Zab w _) HV.out (Zkf _ _ _)
 | lst l =>
  rw[VL] at hv
  obtain⟨sl,cs,rfl,h2,_⟩:=hv
  obtain⟨ad,cap,rfl⟩:=h2.slice
  rw[wtV] at hw
  have hl:=Zhc l
  have CI:Hid (∀X,Calls prog 173 #[.agg #[.slice ad l.length cap,.int .i64 ((Zbh l:Nat):Int)]] X _):=fun X=>Zgf ad l.length cap _ X h2.capOr (by omega)
  have hli:((l.length:Nat):Int)≤600:=by omega
  have HV:Aside (Zn8 (.lst l)=some (.num (l.length:Int))):=show _=_ by rw[Zn8]
  clear h2
  generalize Zn8 (.lst l)=R at *
  go_enter func259,ntmps259
  go_wp2_with (go_at_call 173;refine (CI.out _).mono ?_;rintro e w1 ⟨rfl,hb1⟩)
  go_ret2
  have bX:=Zab w (Obj.cells #[.slice ad l.length cap,.int .i64 ((Zbh l:Nat):Int)] 233)
  exact Zkh (bX.trans (hb1.mono bX.size)) HV.out (Zkf _ _ _)
end Go.Proofs.YtliapghpeoaonaaGreatDoor
namespace Go.Proofs.YtliapghpeoaonaaGreatDoor
open Go.Proofs.Tryz
open Go.RowKit Go.Lib
attribute [local go_sem ↓] Go.wp_at_zero Go.wp_at_succ
attribute [local go_sem] Zdi Zdh Zdj Zdf Zde Zdg Zdl Zdk Zdm
def Zq3 (D:Nat→Prop)(w:World)(a b:PV)(e:Ending)(w':World):Prop :=
 Below w.heap.size w w'∧((∃(l:List PV) (i:Nat) (g o:Nat) (cs:List Value),a=.lst l∧b=.num (i:Int)∧i<l.length∧e=.returned (.tuple #[.slice (some ⟨g,o,none⟩) l.length l.length,.int .i64 ((i:Nat):Int),.nilIface])∧Zar w' D 81 1 (.slice (some ⟨g,o,none⟩) l.length l.length) l.length cs∧VLs w' D l cs) ∨
  ((∀l i,a=.lst l→b=.num i→¬ (0≤i∧i<l.length))∧∃b',e=.returned (.tuple #[.slice none 0 0,.int .i64 0,Zm2 b'])))
theorem Zwp {D:Nat→Prop}{w w':World}{a b:PV}{b':ByteArray}(hb:Below w.heap.size w w')(h:∀l i,a=.lst l→b=.num i→¬ (0≤i∧i<l.length)):Zq3 D w a b (.returned (.tuple #[.slice none 0 0,.int .i64 0,Zm2 b'])) w':=⟨hb,Or.inr ⟨h,b',rfl⟩⟩
theorem Zcn {w:World}{D:Nat→Prop}{v:PV}{x:Value}(h:VL w D v x):(∃z,v=.num z∧x=.iface 228 (.int .i64 z))∨(∃s:ByteArray,v=.txt s.data.toList∧x=.iface 231 (.string s))∨(∃l ad cap cs,v=.lst l∧x=.iface 233 (.agg #[.slice ad l.length cap,.int .i64 ((Zbh l:Nat):Int)])∧Zar w D 81 1 (.slice ad l.length cap) l.length cs∧VLs w D l cs):=by
 cases v with
 | num z=>rw[VL] at h;exact Or.inl ⟨z,rfl,h⟩
 | txt b=>rw[VL] at h;obtain⟨s,rfl,h⟩:=h;exact Or.inr (Or.inl ⟨s,rfl,h⟩)
 | lst l =>
  rw[VL] at h
  obtain⟨sl,cs,rfl,h2,h3⟩:=h
  obtain⟨ad,cap,rfl⟩:=h2.slice
  exact Or.inr (Or.inr ⟨l,ad,cap,cs,rfl,rfl,h2,h3⟩)
theorem Zns (D:Nat→Prop)(a b:PV)(x y:Value)(w:World)(ha:VL w D a x)(hb:VL w D b y)(hw:wtV a≤600):
  Calls prog 280 #[x,y] w (Zq3 D w a b):=by
 rcases Zcn ha with ⟨z,rfl,rfl⟩ | ⟨s,rfl,rfl⟩ | ⟨l,ad,cap,cs,rfl,rfl,hseg,hvs⟩
 ·rcases Zcn hb with ⟨z2,rfl,rfl⟩ | ⟨s2,rfl,rfl⟩ | ⟨l2,ad2,cap2,cs2,rfl,rfl,_,_⟩
  all_goals
   clear ha hb
   go_enter func280,ntmps280
   go_wp2
   exact bodyPost_ret (v:=.tuple #[.slice none 0 0,.int .i64 0,Zm2 _]) (by simp[results,results280,go_sem];rfl) rfl (Zwp (by first | exact Below.refl _ _ | exact Zab w _) (fun l i h1 h2=>by first | (cases h1;done) | (cases h2;done)))
 ·rcases Zcn hb with ⟨z2,rfl,rfl⟩ | ⟨s2,rfl,rfl⟩ | ⟨l2,ad2,cap2,cs2,rfl,rfl,_,_⟩
  all_goals
   clear ha hb
   go_enter func280,ntmps280
   go_wp2
   exact bodyPost_ret (v:=.tuple #[.slice none 0 0,.int .i64 0,Zm2 _]) (by simp[results,results280,go_sem];rfl) rfl (Zwp (by first | exact Below.refl _ _ | exact Zab w _) (fun l i h1 h2=>by first | (cases h1;done) | (cases h2;done)))
 ·rcases Zcn hb with ⟨z2,rfl,rfl⟩ | ⟨s2,rfl,rfl⟩ | ⟨l2,ad2,cap2,cs2,rfl,rfl,_,_⟩
  ·rw[wtV] at hw
   have hl:=Zhc l
   have bX:=Zab w (Obj.cells #[.slice ad l.length cap,.int .i64 ((Zbh l:Nat):Int)] 233)
   have CI:Hid (∀X,Calls prog 173 #[.agg #[.slice ad l.length cap,.int .i64 ((Zbh l:Nat):Int)]] X _):=fun X=>Zgf ad l.length cap _ X hseg.capOr (by omega)
   have hli:((l.length:Nat):Int)≤600:=by omega
   by_cases hi:0≤z2∧z2<(l.length:Int)
   ·obtain⟨i,rfl⟩:∃i:Nat,z2=(i:Int):=⟨z2.toNat,by omega⟩
    have hi2:i<l.length:=by omega
    obtain⟨g,o,cp,hcap,_⟩:=hseg.cell (by omega)
    cases hcap
    have FIN:Hid (∀X,Below w.heap.size w X→Zq3 D w (.lst l) (.num (i:Int)) (.returned (.tuple #[.slice (some ⟨g,o,none⟩) l.length l.length,.int .i64 ((i:Nat):Int),.nilIface])) X):=fun X hX=>⟨hX,Or.inl ⟨l,i,g,o,cs,rfl,rfl,hi2,rfl,hseg.clip.below hX,hvs.below hX⟩⟩
    have hi3:¬ ((l.length:Nat):Int)≤(i:Int):=by omega
    have hi4:(i:Int)<((l.length:Nat):Int):=by omega
    clear ha hb hvs hseg hi
    go_enter func280,ntmps280
    go_wp2_with (go_at_call 173;refine (CI.out _).mono ?_;rintro e w1 ⟨rfl,hb1⟩)
    exact bodyPost_ret (v:=.tuple #[.slice (some ⟨g,o,none⟩) l.length l.length,.int .i64 ((i:Nat):Int),.nilIface]) (by simp[results,results280,go_sem]) rfl (FIN.out _ (bX.trans (hb1.mono bX.size)))
   ·have FIN:Hid (∀X b,Below w.heap.size w X→Zq3 D w (.lst l) (.num z2) (.returned (.tuple #[.slice none 0 0,.int .i64 0,Zm2 b])) X):=fun X b hX=>Zwp hX fun l' i h1 h2=>by cases h1;cases h2;exact hi
    clear ha hb hvs hseg
    by_cases hz:z2<0
    ·clear hi
     go_enter func280,ntmps280
     go_wp2_with (go_at_call 173;refine (CI.out _).mono ?_;rintro e w1 ⟨rfl,hb1⟩)
     exact bodyPost_ret (v:=.tuple #[.slice none 0 0,.int .i64 0,Zm2 _]) (by simp[results,results280,go_sem];rfl) rfl (FIN.out _ _ (bX.trans (hb1.mono bX.size)))
    ·have hz2:((l.length:Nat):Int)≤z2:=by omega
     have hz3:0≤z2:=by omega
     clear hi hz
     go_enter func280,ntmps280
     go_wp2_with (go_at_call 173;refine (CI.out _).mono ?_;rintro e w1 ⟨rfl,hb1⟩)
     exact bodyPost_ret (v:=.tuple #[.slice none 0 0,.int .i64 0,Zm2 _]) (by simp[results,results280,go_sem];rfl) rfl (FIN.out _ _ (bX.trans (hb1.mono bX.size)))
  all_goals
   clear ha hb hseg hvs
   go_enter func280,ntmps280
   go_wp2
   exact bodyPost_ret (v:=.tuple #[.slice none 0 0,.int .i64 0,Zm2 _]) (by simp[results,results280,go_sem];rfl) rfl (Zwp (by first | exact Below.refl _ _ | exact Zab w _) (fun l i h1 h2=>by first | (cases h1;done) | (cases h2;done)))
theorem atV_eq {l:List PV}{i:Nat}(hi:i<l.length):atV l (i:Int)=some l[i]:=by simp[atV,hi]
theorem atV_no {l:List PV}{i:Int}(h:¬ (0≤i∧i<l.length)):atV l i=none:=by
 unfold atV
 split
 ·rw[List.getElem?_eq_none];omega
 ·rfl
def at2:PV→PV→Option PV
 | .lst l,.num i=>atV l i
 | _,_=>none
theorem at2_no {a b:PV}(h:∀l i,a=.lst l→b=.num i→¬ (0≤i∧i<l.length)):at2 a b=none:=by
 cases a with
 | lst l =>
  cases b with
  | num i=>exact atV_no (h l i rfl rfl)
  | txt _=>rfl
  | lst _=>rfl
 | num _=>rfl
 | txt _=>rfl
theorem Zy2 (D:Nat→Prop)(a b:PV)(x y:Value)(w:World)(ha:VL w D a x)(hb:VL w D b y)(hw:wtV a≤600):
  Calls prog 278 #[x,y] w (Zcx D w (at2 a b)):=by
 have CP:=Zns D a b x y w ha hb hw
 obtain⟨tx,xx,rfl⟩:=ha.iface
 obtain⟨ty,yy,rfl⟩:=hb.iface
 have hl:∀l,a=.lst l→l.length≤600:=fun l h=>by subst h;rw[wtV] at hw;have:=Zhc l;omega
 clear ha hb hw
 go_enter func278,ntmps278
 go_wp2_with fail
 refine CP.mono ?_
 rintro e w1 ⟨hb1,⟨l,i,g,o,cs,rfl,rfl,hi,rfl,hseg,hvs⟩ | ⟨hno,b',rfl⟩⟩
 ·have hl2:=hl l rfl
  obtain⟨x,hx,hv⟩:=hvs.at i hi
  obtain⟨t,y,rfl⟩:=hv.iface
  obtain⟨g',o',cp,hcap,_,_,_,hc⟩:=hseg.cell (by omega)
  cases hcap
  have c0:w1.cell? ⟨g,o+i,none⟩=some (.iface t y):=by rw[hc i (by omega)];exact hx
  have HV:Aside (at2 (.lst l) (.num (i:Int))=some l[i]):=show _=_ from atV_eq hi
  have hi3:(i:Int)<((l.length:Nat):Int):=by omega
  clear hseg hvs hx hc hl CP
  generalize at2 (.lst l) (.num (i:Int))=R at *
  go_wp2_with fail
  go_ret2
  exact Zkh hb1 HV.out hv
 ·have HV:Aside (at2 a b=none):=at2_no hno
  generalize at2 a b=R at *
  clear hl CP
  go_wp2_with fail
  go_ret2
  exact Zhd hb1 HV.out (Zb9 _)
theorem VLs.set {w:World}{D:Nat→Prop}{v:PV}{x:Value}(hv:VL w D v x):∀{l:List PV} {cs:List Value} (i:Nat),VLs w D l cs→VLs w D (l.set i v) (cs.set i x)
 | [],cs,i,h=>by rw[VLs] at h;subst h;simp[VLs]
 | a::r,cs,i,h=>by
  rw[VLs] at h
  obtain⟨y,ys,rfl,h1,h2⟩:=h
  cases i with
  | zero=>simp only[List.set_cons_zero];rw[VLs];exact⟨_,_,rfl,hv,h2⟩
  | succ i=>simp only[List.set_cons_succ];rw[VLs];exact⟨_,_,rfl,h1,VLs.set hv i h2⟩
theorem Zmw (v:PV):∀(l:List PV) (i:Nat),Zbh (l.set i v)≤Zbh l+wtV v
 | [],i=>by simp[Zbh]
 | a::r,0=>by simp only[List.set_cons_zero];rw[Zbh,Zbh];omega
 | a::r,i+1=>by simp only[List.set_cons_succ];rw[Zbh,Zbh];have:=Zmw v r i;omega
theorem set3_ok {l:List PV}{i:Nat}{v:PV}(hi:i<l.length):set3 (.lst l) (.num (i:Int)) v=some (.lst (l.set i v)):=by
 show Zzt l (i:Int) v=_
 unfold Zzt
 rw[if_pos ⟨by omega,by omega⟩]
 simp
theorem set3_no {a b v:PV}(h:∀l i,a=.lst l→b=.num i→¬ (0≤i∧i<l.length)):set3 a b v=none:=by
 cases a with
 | lst l =>
  cases b with
  | num i=>show Zzt l i v=none;unfold Zzt;rw[if_neg (h l i rfl rfl)]
  | txt _=>rfl
  | lst _=>rfl
 | num _=>rfl
 | txt _=>rfl
theorem Zxa {w:World}{D:Nat→Prop}{l:List PV}{sl:Value}{cs:List Value}(h1:Zar w D 81 1 sl l.length cs)(h2:VLs w D l cs):VL w D (.lst l) (.iface 233 (.agg #[sl,.int .i64 ((Zbh l:Nat):Int)])):=by
 rw[VL]
 exact⟨sl,cs,rfl,h1,h2⟩
theorem Zsy (D:Nat→Prop)(a b c:PV)(x y z:Value)(w:World)(ha:VL w D a x)(hb:VL w D b y)(hc:VL w D c z)(hw:wtV a≤600)(hwc:wtV c≤600)(hD:∀g,w.heap.size≤g→D g):
  Calls prog 260 #[x,y,z] w (Zcx D w (set3 a b c)):=by
 have CP:=Zns D a b x y w ha hb hw
 obtain⟨tx,xx,rfl⟩:=ha.iface
 obtain⟨ty,yy,rfl⟩:=hb.iface
 obtain⟨tz,zz,rfl⟩:=hc.iface
 have hl:∀l,a=.lst l→l.length≤600∧Zbh l≤600:=fun l h=>by subst h;rw[wtV] at hw;have:=Zhc l;omega
 clear ha hb hw
 go_enter func260,ntmps260
 go_wp2_with fail
 refine CP.mono ?_
 rintro e w1 ⟨hb1,⟨l,i,g,o,cs,rfl,rfl,hi,rfl,hseg,hvs⟩ | ⟨hno,b',rfl⟩⟩
 ·obtain⟨hl2,hl3⟩:=hl l rfl
  have CC:=Zxj D l _ cs w1 (by omega) (by omega) hseg hvs
  have HV:Aside (set3 (.lst l) (.num (i:Int)) c=some (.lst (l.set i c))):=show _=_ from set3_ok hi
  have hi3:(i:Int)<((l.length:Nat):Int):=by omega
  generalize set3 (.lst l) (.num (i:Int)) c=R at *
  clear CP hl hseg
  have sz1:=hb1.size
  go_wp2_with fail
  refine CC.mono ?_
  rintro e w2 ⟨v2,rfl,own2,hb2⟩
  obtain⟨ad2,cap2,rfl⟩:=Zaf own2
  have sz2:=hb2.size
  have hsz:l.length≤cap2∧cap2≤maxLen∧∃g2,ad2=some ⟨g2,0,none⟩∧w1.heap.size≤g2∧g2<w2.heap.size:=by
   rcases own2.2 with ⟨_,h0⟩ | ⟨g2,cp,cur,he,hg,hh,hc1,hc2,_⟩
   ·omega
   ·cases he;exact⟨hc1,hc2,g2,rfl,hg,Zag hh⟩
  obtain⟨hcap2,hcm,g2,rfl,hg2a,hg2b⟩:=hsz
  have hcl:cs.length=l.length:=by have:=own2.1;omega
  obtain⟨xo,hxo⟩:∃xo,cs[i]?=some xo:=⟨cs[i]'(by omega),List.getElem?_eq_getElem _⟩
  have hcell:w2.cell? ⟨g2,i,none⟩=some xo:=by
   rcases own2.2 with ⟨_,h0⟩ | ⟨g3,cp,cur,he,hg,hh,hc1,hc2,hcs,htk⟩
   ·omega
   ·cases he
    have:w2.cell? ⟨g2,i,none⟩=cur[i]?:=by unfold World.cell?;rw[hh];rfl
    rw[this,←Array.getElem?_toList]
    rw[←htk,List.getElem?_take,if_pos (by omega)] at hxo
    exact hxo
  have hfr:w2.frozen? ⟨g2,i,none⟩=false:=own2.frozenAt i
  have hsto:=own2.stored i (.iface tz zz)
  -- the values in the new world
  have hS:∀k,k<w1.heap.size→(w2.setCell ⟨g2,i,none⟩ (.iface tz zz)).heap[k]?=w1.heap[k]?:=fun k hk=>by
   rw[Below.heap_setCell w2 ⟨g2,i,none⟩ _ k (by show k≠g2;omega),hb2.block k hk]
  have vz:VL (w2.setCell ⟨g2,i,none⟩ (.iface tz zz)) D c (.iface tz zz):=((hc.below hb1).map fun sl n xs hs=>(hs.keep fun k _ hlt=>hS k hlt).weaken fun k hk=>hk.1)
  have vl:VLs (w2.setCell ⟨g2,i,none⟩ (.iface tz zz)) D l cs:=(hvs.map fun sl n xs hs=>(hs.keep fun k _ hlt=>hS k hlt).weaken fun k hk=>hk.1)
  have vn:=VLs.set vz i vl
  have seg3:Zar (w2.setCell ⟨g2,i,none⟩ (.iface tz zz)) D 81 1 (.slice (some ⟨g2,0,none⟩) l.length cap2) (l.set i c).length (cs.set i (.iface tz zz)):=by
   rw[List.length_set]
   exact (Zar.of_row (Zao.of_owns hsto.1)).weaken fun k hk=>hD k (by omega)
  have hb3:Below w.heap.size w (w2.setCell ⟨g2,i,none⟩ (.iface tz zz)):=(hb1.trans (hb2.mono sz1)).setCell (p:=⟨g2,i,none⟩) (by show w.heap.size≤g2;omega) _
  have hwt:=Zmw c l i
  have CN:=Zei D (l.set i c) _ _ _ seg3 vn (by omega)
  have FIN:Hid (∀X,Below (w2.setCell ⟨g2,i,none⟩ (.iface tz zz)).heap.size (w2.setCell ⟨g2,i,none⟩ (.iface tz zz)) X→Zcx D w R (.returned (.tuple #[.iface 233 (.agg #[.slice (some ⟨g2,0,none⟩) l.length cap2,.int .i64 ((Zbh (l.set i c):Nat):Int)]),.nilIface])) X):=fun X hX=>Zkh (hb3.trans (hX.mono hb3.size)) HV.out (Zxa (seg3.below hX) (vn.below hX))
  clear CC own2 hsto hS vz vl vn seg3 hb3 hwt hvs hc hxo HV hcl
  generalize Zbh (l.set i c)=W at *
  go_wp2_with (go_at_call 201;refine CN.mono ?_;rintro e w4 ⟨rfl,hb4⟩)
  go_ret2
  exact FIN.out _ hb4
 ·have HV:Aside (set3 a b c=none):=set3_no hno
  generalize set3 a b c=R at *
  clear hl CP
  go_wp2_with fail
  go_ret2
  exact Zhd hb1 HV.out (Zb9 _)
end Go.Proofs.YtliapghpeoaonaaGreatDoor
