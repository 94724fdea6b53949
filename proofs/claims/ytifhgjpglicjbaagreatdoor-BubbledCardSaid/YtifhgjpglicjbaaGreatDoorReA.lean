/-
  The program: names and their values: scope.
-/
import Derived.Test.YtifhgjpglicjbaaGreatDoorVaI
import Derived.Test.YtifhgjpglicjbaaGreatDoorFaB
import Derived.Test.YtifhgjpglicjbaaGreatDoorRd
import Derived.Test.YtifhgjpglicjbaaGreatDoorRdA
import Derived.OwnWalk
import Derived.Maps.AppendAt
import Derived.Deep.RegionLawGrows
import Derived.Shelf.SlicesE.Clone
import Derived.Shelf.Spec.SlicesGrow
import Derived.Laws.OwnMore
import Derived.Test.YtifhgjpglicjbaaGreatDoorPure
import Derived.WalkKit
import Derived.WalkSpells
import Derived.WalkLawsBesides
import Derived.Deep.LoopGhost
import Derived.Deep.DrawnRows
import Derived.Outline
set_option maxHeartbeats 4000000
set_option maxRecDepth 8000
namespace Go.Proofs.YtifhgjpglicjbaaGreatDoor
open Go.Proofs.Tryz
open Go.RowKit
attribute [local go_sem ↓] Go.wp_at_zero Go.wp_at_succ
def SC (w:World)(D:Nat→Prop):Env→Value→Prop
 | [],y=>y=.pointer none
 | nv::s,y=>∃(b:Nat) (nb:ByteArray) (x z:Value),y=.pointer (some ⟨b,0,none⟩)∧D b∧w.heap[b]?=some (.cells #[.string nb,x,z] 255)∧nb.data.toList=nv.1∧VL w D nv.2 x∧SC w D s z
theorem SC.map {w w':World}{D D':Nat→Prop}(hR:∀sl n vs,SegAt w D 74 1 sl n vs→SegAt w' D' 74 1 sl n vs)(hB:∀b o,D b→w.heap[b]?=some o→D' b∧w'.heap[b]?=some o):∀{s:Env} {y:Value},SC w D s y→SC w' D' s y
 | [],y,h=>by rw[SC] at h ⊢;exact h
 | nv::s,y,h=>by
  rw[SC] at h ⊢
  obtain⟨b,nb,x,z,h1,h2,h3,h4,h5,h6⟩:=h
  exact⟨b,nb,x,z,h1,(hB b _ h2 h3).1,(hB b _ h2 h3).2,h4,h5.map hR,SC.map hR hB h6⟩
theorem SC.weaken {w:World}{D D':Nat→Prop}{s:Env}{y:Value}(h:SC w D s y)(hD:∀k,D k→D' k):SC w D' s y:=h.map (fun _ _ _ g=>g.weaken hD) fun b _o h1 h2=>⟨hD b h1,h2⟩
theorem SC.keep {w w':World}{D:Nat→Prop}{s:Env}{y:Value}(h:SC w D s y)(hS:Same D w w'):SC w' (fun k=>D k∧k<w.heap.size) s y:=h.map (fun _ _ _ g=>g.keep hS) fun b o h1 h2=>⟨⟨h1,block_lt h2⟩,by rw[hS b h1 (block_lt h2)];exact h2⟩
theorem SC.touch {w w':World}{D S:Nat→Prop}{s:Env}{y:Value}(h:SC w D s y)(ht:Touch S w w')(hD:∀k,D k→¬ S k):SC w' D s y:=(h.keep fun k hk hlt=>ht.block k hlt (hD k hk)).weaken fun _k hk=>hk.1
theorem SC.below {w w':World}{D:Nat→Prop}{s:Env}{y:Value}(h:SC w D s y)(hb:Below w.heap.size w w'):SC w' D s y:=(h.keep fun k _ hlt=>hb.block k hlt).weaken fun _k hk=>hk.1
theorem SC.cons {_w w':World}{D:Nat→Prop}{s:Env}{y x:Value}{b:Nat}{nb:ByteArray}{n:List UInt8}{v:PV}(h:SC w' D s y)(hn:nb.data.toList=n)(hv:VL w' D v x)(hD:D b)(hb:w'.heap[b]?=some (.cells #[.string nb,x,y] 255)):SC w' D ((n,v)::s) (.pointer (some ⟨b,0,none⟩)):=by
 rw[SC]
 exact⟨b,nb,x,y,rfl,hD,hb,hn,hv,h⟩
theorem scwith_any (y x:Value)(nb:ByteArray)(w:World)(hy:∃o,y=.pointer o)(hx:∃t z,x=.iface t z):
  Calls prog 75 #[y,.string nb,x] w fun e w'=>Below w.heap.size w w'∧∃b,w.heap.size≤b∧e=.returned (.pointer (some ⟨b,0,none⟩))∧w'.heap[b]?=some (.cells #[.string nb,x,y] 255):=by
 obtain⟨o,rfl⟩:=hy
 obtain⟨t,z,rfl⟩:=hx
 go_enter func75,ntmps75
 go_wp2
 go_ret
 exact⟨below1 w _,_,Nat.le_refl _,rfl,heap_alloc_new _ _⟩
theorem envOf_hit {n:List UInt8}{v:PV}{s:Env}{m:List UInt8}(h:(n==m)=true):envOf ((n,v)::s) m=some v:=by simp[envOf,List.find?,h]
theorem envOf_miss {n:List UInt8}{v:PV}{s:Env}{m:List UInt8}(h:(n==m)=false):envOf ((n,v)::s) m=envOf s m:=by simp[envOf,List.find?,h]
def vePost (D:Nat→Prop)(w:World)(o:Option PV)(e:Ending)(w':World):Prop :=
 Below w.heap.size w w'∧((∃v x,o=some v∧e=.returned (.tuple #[x,.nilIface])∧VL w' D v x)∨(o=none∧∃u f,FltV f∧e=.returned (.tuple #[u,f])))
theorem ve_ok {D:Nat→Prop}{w w':World}{o:Option PV}{v:PV}{x:Value}(hb:Below w.heap.size w w')(ho:o=some v)(hv:VL w' D v x):vePost D w o (.returned (.tuple #[x,.nilIface])) w':=⟨hb,Or.inl ⟨v,x,ho,rfl,hv⟩⟩
theorem ve_no {D:Nat→Prop}{w w':World}{o:Option PV}{u f:Value}(hb:Below w.heap.size w w')(ho:o=none)(hf:FltV f):vePost D w o (.returned (.tuple #[u,f])) w':=⟨hb,Or.inr ⟨ho,u,f,hf,rfl⟩⟩
theorem flt_why (b:ByteArray):FltV (whyB b):=Or.inl ⟨b,rfl⟩
theorem scfind_any (D:Nat→Prop)(s:Env)(y:Value)(nm:ByteArray)(w:World)(h:SC w D s y):
  Calls prog 147 #[y,.string nm] w (vePost D w (envOf s nm.data.toList)):=by
 obtain⟨R,hR⟩:∃R,R=envOf s nm.data.toList:=⟨_,rfl⟩
 have HR:Aside (R=envOf s nm.data.toList):=hR
 rw[←hR]
 clear hR
 go_enter func147,ntmps147
 go_wp2_with fail
 go_loopg [0] s.length (fun gh iv wr=>∃rest,gh=rest.length∧SC wr D rest iv∧Below w.heap.size w wr∧Aside (R=envOf rest nm.data.toList))
 case atStart=>exact⟨s,rfl,h,Below.refl _ _,HR⟩
 case round =>
  obtain⟨rest,rfl,hs,hb,hP⟩:=hrel
  cases rest with
  | nil =>
   rw[SC] at hs
   subst hs
   have hP2:=hP.out
   have:envOf [] nm.data.toList=none:=rfl
   rw[this] at hP2
   subst hP2
   go_wp2
   go_ret2
   exact ve_no hb rfl (flt_why _)
  | cons nv rest =>
   obtain⟨n,v⟩:=nv
   rw[SC] at hs
   obtain⟨b,nb,x,z,rfl,hDb,hbl,hn,hv,hs2⟩:=hs
   obtain⟨tx,yx,rfl⟩:=hv.iface
   have c0:wr.cell? ⟨b,0,none⟩=some (.string nb):=by unfold World.cell?;rw[hbl];rfl
   have c1:wr.cell? ⟨b,1,none⟩=some (.iface tx yx):=by unfold World.cell?;rw[hbl];rfl
   have c2:wr.cell? ⟨b,2,none⟩=some z:=by unfold World.cell?;rw[hbl];rfl
   simp only at hn hv
   cases he:(nb.toList==nm.toList) with
   | true =>
    have hP2:Aside (R=some v):=by
     show _=_
     rw[hP.out,envOf_hit (by rw[←hn,←ByteArray.toList_eq,←ByteArray.toList_eq];exact he)]
    clear hP hs2
    go_wp2
    go_ret2
    exact ve_ok hb hP2.out hv
   | false =>
    have hP2:Aside (R=envOf rest nm.data.toList):=by
     show _=_
     rw[hP.out,envOf_miss (by rw[←hn,←ByteArray.toList_eq,←ByteArray.toList_eq];exact he)]
    clear hP
    go_wp2
    go_roundg rest.length
    case measure=>simp
    case rel=>exact⟨rest,rfl,hs2,hb,hP2⟩
end Go.Proofs.YtifhgjpglicjbaaGreatDoor
namespace Go.Proofs.YtifhgjpglicjbaaGreatDoor
open Go.Proofs.Tryz
open Go.RowKit
theorem run_append_zero (P:Program)(w:World)(t ty e:TypeId)(i:TypeInfo)(ht:P.underlying t=some (.slice e))(hi:P.info? e=some i)(b ad:Option Addr)(n c c2:Nat)(hc:n≤c):
  (Builtin.append_ #[t,t] ty #[.slice b n c,.slice ad 0 c2]).run P w=.ok (.slice b n c) w:=by
 cases b<;>cases ad<;>simp[Builtin.append_,run_underlying ht,sizeOf,typeInfo,hi,Builtin.lenOf,Builtin.firstCells,loadCells,go_sem,hc,storeCells,loadCellsFrom]
theorem run_append_seg (P:Program)(w:World)(D:Nat→Prop)(base:Nat)(t ty e:TypeId)(i:TypeInfo)(z:Value)(size bytes:Nat)(ht:P.underlying t=some (.slice e))(hi:P.info? e=some i)(hz:i.zero=some z)
  (hsize:i.size=size) (hby:i.bytes=bytes) (hzs:z.cells.size=size) (hsz:0<size) (v:Value) (n:Nat) (xs:List Value) (hown:w.ownsRow base e size v n xs) (y:Value) (m:Nat) (ys:List Value) (hseg:SegAt w D e size y m ys) (h1:∀u∈ys,u.oneCell'=true)
  (h63:n+m≤maxLen) (hbytes:(n+m)*bytes≤140737488355328) (hbase:base≤w.heap.size) :
  ∃v' w',(Builtin.append_ #[t,t] ty #[v,y]).run P w=.ok v' w'∧w'.ownsRow base e size v' (n+m) (xs++ys)∧w.grownBy w' v.ownBlock∧(v'.ownBlock=v.ownBlock∨v'.ownBlock=some w.heap.size):=by
 rcases hseg.2 with ⟨⟨ad,cap,rfl⟩,h0⟩ | ⟨g,o,cap,cur,rfl,_,hh,hc,hm,hcs,htk⟩
 ·have hys:ys=[]:=List.eq_nil_of_length_eq_zero (by rw[hseg.1,h0];simp)
  have hx:∃b c,v=.slice b n c∧n≤c:=by
   rcases hown.2 with ⟨hv,hn0⟩ | ⟨g,c,cur,hv,_,_,hc,_⟩
   ·exact⟨none,0,by rw[hn0];exact hv,by omega⟩
   ·exact⟨_,c,hv,hc⟩
  obtain⟨b,c,hv,hcn⟩:=hx
  refine⟨v,w,?_,?_,⟨rfl,rfl,rfl,Nat.le_refl _,fun _ _ _=>rfl⟩,Or.inl rfl⟩
  ·rw[hv];exact run_append_zero P w t ty e i ht hi b ad n c cap hcn
  ·rw[h0,hys,Nat.add_zero,List.append_nil];exact hown
 ·obtain⟨v',w',h2,h3,h4,_,h5⟩:=run_append_own_at (P:=P) w base t ty e i z size bytes ht hi hz hsize hby hzs hsz v n xs hown ⟨g,o,none⟩ m cap ys hseg.1 (fun j u hj=>by
   have hjl:=(List.getElem?_eq_some_iff.1 hj).1
   have hcell:w.cell? ⟨g,o+j,none⟩=cur[o+j]?:=by unfold World.cell?;rw[hh];rfl
   rw[show ((⟨g,o,none⟩:Addr).add j)=⟨g,o+j,none⟩ by cases j<;>simp[Addr.add],hcell,←Array.getElem?_toList]
   rw[←htk] at hj
   rw[List.getElem?_take] at hj
   split at hj
   ·rw[List.getElem?_drop] at hj;exact hj
   ·cases hj) h1 h63 hbytes hbase
  exact⟨v',w',h2,h3,h4,h5⟩
theorem wpList_append_seg {P:Program}{w:World}{D:Nat→Prop}{ops:Array Oper}{rest:List Oper}{o:Oper}{a:Act}{Q:Exit→Act→World→Prop}(hgd:o.guard=none)(s x:Operand)(t:TypeId)
  (ho:o.op=.call { callee:=.builtin .append,args:=#[s,x],argTypes:=#[t,t] })
  (base:Nat) (e:TypeId) (i:TypeInfo) (z:Value) (size bytes:Nat) (ht:P.underlying t=some (.slice e)) (hi:P.info? e=some i) (hz:i.zero=some z)
  (hsize:i.size=size) (hby:i.bytes=bytes) (hzs:z.cells.size=size) (hsz:0<size)
  (v:Value) (n:Nat) (xs:List Value) (hs:a.eval s=v) (hown:w.ownsRow base e size v n xs)
  (y:Value) (m:Nat) (ys:List Value) (hx:a.eval x=y) (hseg:SegAt w D e size y m ys) (h1:∀u∈ys,u.oneCell'=true)
  (h63:n+m≤maxLen) (hbytes:(n+m)*bytes≤140737488355328) (hbase:base≤w.heap.size)
  (h:∀v' w',w'.ownsRow base e size v' (n+m) (xs++ys)→w.grownBy w' v.ownBlock→(v'.ownBlock=v.ownBlock∨v'.ownBlock=some w.heap.size)→wpList P ops Q rest (a.put o.dst v') w') :
  wpList P ops Q (o::rest) a w:=by
 refine wpList_plain hgd fun K hK=>?_
 obtain⟨v',w',hr,h2,h3,h4⟩:=run_append_seg P w D base t o.type e i z size bytes ht hi hz hsize hby hzs hsz v n xs hown y m ys hseg h1 h63 hbytes hbase
 unfold Oper.wp execOp
 simp only[ho,resolve,invoke,builtin,Sem.run_bind,Sem.run_pure,Result.andThen_ok,List.map_toArray,List.map_cons,List.map_nil,hs,hx,hr]
 exact hK _ _ (h v' w' h2 h3 h4)
theorem wpList_append_zero {P:Program}{w:World}{ops:Array Oper}{rest:List Oper}{o:Oper}{a:Act}{Q:Exit→Act→World→Prop}(hgd:o.guard=none)(s x:Operand)(t:TypeId)
  (ho:o.op=.call { callee:=.builtin .append,args:=#[s,x],argTypes:=#[t,t] })
  (e:TypeId) (i:TypeInfo) (ht:P.underlying t=some (.slice e)) (hi:P.info? e=some i) (b ad:Option Addr) (n c c2:Nat) (hc:n≤c) (hs:a.eval s=.slice b n c) (hx:a.eval x=.slice ad 0 c2)
  (h:wpList P ops Q rest (a.put o.dst (.slice b n c)) w) :
  wpList P ops Q (o::rest) a w:=by
 refine wpList_plain hgd fun K hK=>?_
 have hr:=run_append_zero P w t o.type e i ht hi b ad n c c2 hc
 unfold Oper.wp execOp
 simp only[ho,resolve,invoke,builtin,Sem.run_bind,Sem.run_pure,Result.andThen_ok,List.map_toArray,List.map_cons,List.map_nil,hs,hx,hr]
 exact hK _ _ h
theorem step_append_zero {P:Program}{ops:Array Oper}{o:Oper}{a:Act}{w:World}{K:Act→World→Prop}{Q:Exit→Act→World→Prop}{E:Prop}
  (hg:o.guard=none) (s x:Operand) (t:TypeId) (hop:o.op=Op.call { callee:=Callee.builtin Builtin.append,args:=#[s,x],argTypes:=#[t,t] })
  (e:TypeId) (i:TypeInfo) (ht:P.underlying t=some (.slice e)) (hi:P.info? e=some i) (b ad:Option Addr) (n c c2:Nat) (hc:n≤c) (hs:a.eval s=.slice b n c) (hx:a.eval x=.slice ad 0 c2)
  (hK:K (a.put o.dst (.slice b n c)) w) :
  if Region.wanted o (yielded ops a.tmps)=true then Oper.wp P o a w K Q else E:=by
 have hw:Region.wanted o (yielded ops a.tmps)=true:=by simp[Region.wanted,hg]
 rw[if_pos hw]
 have hr:=run_append_zero P w t o.type e i ht hi b ad n c c2 hc
 unfold Oper.wp
 simp[execOp,hop,resolve,invoke,builtin,hs,hx,hr,Result.andThen]
 exact hK
theorem step_append_seg {P:Program}{ops:Array Oper}{o:Oper}{a:Act}{w:World}{D:Nat→Prop}{K:Act→World→Prop}{Q:Exit→Act→World→Prop}{E:Prop}
  (hg:o.guard=none) (s x:Operand) (t:TypeId) (hop:o.op=Op.call { callee:=Callee.builtin Builtin.append,args:=#[s,x],argTypes:=#[t,t] })
  (base:Nat) (e:TypeId) (i:TypeInfo) (z:Value) (size bytes:Nat) (h1:P.underlying t=some (.slice e)) (h2:P.info? e=some i) (h3:i.zero=some z) (h4:i.size=size) (h5:i.bytes=bytes) (h6:z.cells.size=size) (h7:0<size)
  (v:Value) (n:Nat) (xs:List Value) (hs:a.eval s=v) (hown:w.ownsRow base e size v n xs)
  (y:Value) (m:Nat) (ys:List Value) (hx:a.eval x=y) (hseg:SegAt w D e size y m ys) (h1c:∀u∈ys,u.oneCell'=true)
  (b1:n+m≤maxLen) (b2:(n+m)*bytes≤140737488355328) (hbase:base≤w.heap.size)
  (hK:∀v' w',w'.ownsRow base e size v' (n+m) (xs++ys)→w.grownBy w' v.ownBlock→(v'.ownBlock=v.ownBlock∨v'.ownBlock=some w.heap.size)→K (a.put o.dst v') w') :
  if Region.wanted o (yielded ops a.tmps)=true then Oper.wp P o a w K Q else E:=by
 have hw:Region.wanted o (yielded ops a.tmps)=true:=by simp[Region.wanted,hg]
 rw[if_pos hw]
 obtain⟨v',w',hrun,r1,r2,r4⟩:=run_append_seg P w D base t o.type e i z size bytes h1 h2 h3 h4 h5 h6 h7 v n xs hown y m ys hseg h1c b1 b2 hbase
 unfold Oper.wp
 simp[execOp,hop,resolve,invoke,builtin,hs,hx,hrun,Result.andThen]
 exact hK v' w' r1 r2 r4
end Go.Proofs.YtifhgjpglicjbaaGreatDoor
namespace Go.Proofs.YtifhgjpglicjbaaGreatDoor
open Go.Proofs.Tryz
open Go.RowKit Go.Shelf Go.Lib
attribute [local go_sem ↓] Go.wp_at_zero Go.wp_at_succ
def renV:Ren:=⟨fun k=>if k=41 then 211 else if k=4 then 225 else 0,fun k=>if k=0 then 0 else if k=3 then 3 else if k=4 then 4 else if k=9 then 9 else if k=20 then 20 else if k=22 then 70 else if k=23 then 74 else if k=25 then 74 else 0,fun _=>0⟩
theorem laysVC:SlLaysE0.n41 prog renV:=by
 constructor
 all_goals first | kernel_rfl | (intro w;kernel_rfl) | exact⟨ "slices.Clone[[]stagehand/value.Value,stagehand/value.Value]", by decide +kernel,by kernel_rfl⟩
theorem laysVG:Lays8.n4 prog renV:=by
 constructor
 all_goals first | kernel_rfl | (intro w;kernel_rfl) | exact⟨ "slices.Grow[[]stagehand/value.Value,stagehand/value.Value]", by decide +kernel,by kernel_rfl⟩
theorem VLs.one_cell {w:World}{D:Nat→Prop}:∀{l:List PV} {cs:List Value},VLs w D l cs→∀u∈cs,u.oneCell'=true
 | [],cs,h,u,hu=>by rw[VLs] at h;subst h;simp at hu
 | v::r,cs,h,u,hu=>by
  rw[VLs] at h
  obtain⟨x,xs,rfl,h2,h3⟩:=h
  rcases List.mem_cons.1 hu with e | e
  ·obtain⟨t,y,rfl⟩:=h2.iface
   subst e
   rfl
  ·exact VLs.one_cell h3 u e
theorem vclone_any (D:Nat→Prop)(l:List PV)(sl:Value)(cs:List Value)(w:World)(hn:0<l.length)(hl:l.length≤1000000)(hseg:SegAt w D 74 1 sl l.length cs)(hvs:VLs w D l cs):
  Calls prog 211 #[sl] w fun e w'=>∃v',e=.returned v'∧w'.ownsRow w.heap.size 74 1 v' l.length cs∧Below w.heap.size w w':=by
 obtain⟨g,o,cap,rfl,hD,h1,h2,hc⟩:=hseg.cell hn
 obtain⟨i0,hi,hz0,hz1,hz2⟩:=info_parts Tryz.infoVVal
 have c:Calls prog 211 #[.slice (some ⟨g,o,none⟩) l.length cap] w _:=AnyE.slices_Clone laysVC i0 .nilIface 1 16 hi hz0 hz1 hz2 rfl (by decide) (fun w=>by show (Go.sizeOf 74).run _ _=_;simp[Go.sizeOf,typeInfo,hi,hz1]) g o l.length cap cs w hseg.1 (by unfold maxLen;omega) (by omega) (fun j u hj=>by
  have:j<l.length*1:=by rw[←hseg.1];exact (List.getElem?_eq_some_iff.1 hj).1
  rw[hc j this]
  exact hj) hvs.one_cell
 refine c.mono fun e w' ⟨v',h1,h2,_,h4⟩=>⟨v',h1,h2,h4⟩
theorem vgrow_any (n:Nat)(w:World)(hn:n≤1000000):
  Calls prog 225 #[.slice none 0 0,.int .i64 ((n:Nat):Int)] w fun e w'=>∃v',e=.returned v'∧w'.ownsRow w.heap.size 74 1 v' 0 []∧Below w.heap.size w w':=by
 obtain⟨i0,hi,hz0,hz1,hz2⟩:=info_parts Tryz.infoVVal
 by_cases h0:n=0
 ·have c:Calls prog 225 #[.slice none 0 0,.int .i64 ((n:Nat):Int)] w _:=Any8.slices_Grow_room laysVG none 0 0 n w (Nat.le_refl _) (by omega) (by omega) (by omega)
  refine c.mono fun e w' ⟨h1,h2⟩=>⟨_,h1,?_,by rw[h2];exact Below.refl _ _⟩
  exact World.ownsRow_nil _ _ _ _
 ·have c:Calls prog 225 #[.slice none 0 0,.int .i64 ((n:Nat):Int)] w _:=Any8.slices_Grow_grow laysVG i0 .nilIface hi hz0 (by rw[hz1];decide) none 0 0 n [] w (Nat.le_refl _) (by omega) (by rw[hz2];omega) (by omega) (by simp) (fun _=>rfl) (fun a h=>by cases h)
  refine c.mono fun e w' ⟨h1,h2⟩=>⟨_,h1,?_,by rw[h2];exact (Below.drew (Below.refl _ w)).alloc (Nat.le_refl _) _⟩
  have hge:=grownCap_ge w (0+n) 0 (renV.t 25)
  have hle:=grownCap_le_maxLen w (0+n) 0 (renV.t 25) (by unfold maxLen;omega)
  refine⟨rfl,Or.inr ⟨w.heap.size,_,_,rfl,Nat.le_refl _,by rw[h2];exact heap_alloc_new w.drew _,Nat.zero_le _,hle,?_,by simp⟩⟩
  have hzc:(Value.nilIface).cells.size=1:=rfl
  rw[Nat.zero_add] at hge ⊢
  simp[Builtin.zeroCells,hzc]
  omega
theorem vconcat_any (D:Nat→Prop)(n m:Nat)(sl sm:Value)(cs ds:List Value)(w:World)(b:Nat)(hn:n≤10000)(hm:m≤10000)(h1:SegAt w D 74 1 sl n cs)(h2:SegAt w D 74 1 sm m ds)(o1:∀u∈cs,u.oneCell'=true)(o2:∀u∈ds,u.oneCell'=true)(c0:w.cell? ⟨b,0,none⟩=some sl)(c1:w.cell? ⟨b,1,none⟩=some sm):
  Calls prog 222 #[.slice (some ⟨b,0,none⟩) 2 2] w fun e w'=>∃v',e=.returned v'∧w'.ownsRow w.heap.size 74 1 v' (n+m) (cs++ds)∧Below w.heap.size w w':=by
 have CG:Hid (∀X,Calls prog 225 #[.slice none 0 0,.int .i64 ((n:Int)+(m:Int))] X _):=fun X=>vgrow_any (n+m) X (by omega)
 obtain⟨ad,cap,rfl⟩:=h1.slice
 obtain⟨ae,cae,rfl⟩:=h2.slice
 go_enter func222,ntmps222
 go_wp2_with fail
 refine wp_loop_rounds 3 ?_
 rw[rounds_succ]
 go_wp2_with fail
 rw[rounds_succ]
 go_wp2_with fail
 rw[rounds_succ]
 go_wp2_with (go_at_call 225;refine (CG.out _).mono ?_;rintro e w1 ⟨v1,rfl,own1,hb1⟩)
 obtain⟨a1,k1,rfl⟩:=owns_slice own1
 have d0:=Below.cellv hb1 c0
 have d1:=Below.cellv hb1 c1
 have sz1:=hb1.size
 refine wp_loop_rounds 3 ?_
 rw[rounds_succ]
 go_wp2_with (at_builtin;(obtain⟨i0,hi,hz0,hz1,hz2⟩:=info_parts Tryz.infoVVal;refine wpList_append_seg rfl _ _ 70 rfl w.heap.size 74 i0 .nilIface 1 16 underlying70 hi hz0 hz1 hz2 rfl (by decide) _ _ _ rfl own1 _ n cs rfl (h1.below hb1) o1 (by unfold maxLen;omega) (by omega) sz1 ?_;intro v2 w2 own2 hg2 hob2))
 have hb2:Below w.heap.size w w2:=hb1.grown hg2 sz1 fun k hk=>(own1.lt k hk).1
 obtain⟨a2,k2,rfl⟩:=owns_slice own2
 have e0:=Below.cellv hb2 c0
 have e1:=Below.cellv hb2 c1
 have sz2:=hb2.size
 clear d0 d1
 rw[rounds_succ]
 go_wp2_with (at_builtin;obtain⟨i0,hi,hz0,hz1,hz2⟩:=info_parts Tryz.infoVVal;refine wpList_append_seg rfl _ _ 70 rfl w.heap.size 74 i0 .nilIface 1 16 underlying70 hi hz0 hz1 hz2 rfl (by decide) _ _ _ rfl own2 _ m ds rfl (h2.below hb2) o2 (by unfold maxLen;omega) (by omega) sz2 ?_;intro v3 w3 own3 hg3 hob3)
 have hb3:Below w.heap.size w w3:=hb2.grown hg3 sz2 fun k hk=>(own2.lt k hk).1
 obtain⟨a3,k3,rfl⟩:=owns_slice own3
 rw[rounds_succ]
 go_wp2_with fail
 go_ret
 exact⟨_,rfl,by simpa using own3,hb3⟩
theorem items2_any (ad:Option Addr)(n cap:Nat)(z:Int)(w:World)(h1:n≤cap∨n=0)(_h2:n≤1000000):
  Calls prog 124 #[.agg #[.slice ad n cap,.int .i64 z]] w fun e w'=>e=.returned (.slice ad n n)∧Below w.heap.size w w':=by
 have h3:n≤cap:=by omega
 have cc:∀w,Calls prog 166 #[.slice ad n cap] w fun e w'=>e=.returned (.slice ad n n)∧w'=w:=fun w=>by
  go_enter func166,ntmps166
  go_wp2
  go_ret
  exact⟨rfl,rfl⟩
 go_enter func124,ntmps124
 go_wp2_with (go_at_call 166;refine (cc _).mono ?_;rintro e w' ⟨rfl,rfl⟩)
 go_ret
 exact⟨rfl,below1 w _⟩
theorem SegAt.capOr {w:World}{D:Nat→Prop}{e:TypeId}{size:Nat}{ad:Option Addr}{n cap:Nat}{xs:List Value}(h:SegAt w D e size (.slice ad n cap) n xs):n≤cap∨n=0:=by
 rcases h.2 with ⟨_,h0⟩ | ⟨g,o,c,cur,hv,_,_,hc,_⟩
 ·exact Or.inr h0
 ·cases hv;exact Or.inl hc
theorem SegAt.clip {w:World}{D:Nat→Prop}{e:TypeId}{size:Nat}{ad:Option Addr}{n cap:Nat}{xs:List Value}(h:SegAt w D e size (.slice ad n cap) n xs):SegAt w D e size (.slice ad n n) n xs:=by
 rcases h.2 with ⟨_,h0⟩ | ⟨g,o,c,cur,hv,hg,hh,hc,hm,hz,ht⟩
 ·subst h0;exact⟨h.1,Or.inl ⟨⟨_,_,rfl⟩,rfl⟩⟩
 ·cases hv
  exact⟨h.1,Or.inr ⟨g,o,n,cur,rfl,hg,hh,Nat.le_refl _,by omega,by have:=Nat.mul_le_mul_right size hc;omega,ht⟩⟩
theorem VL_num (w:World)(D:Nat→Prop)(z:Int):VL w D (.num z) (.iface 190 (.int .i64 z)):=by rw[VL]
theorem VL_txt (w:World)(D:Nat→Prop)(s:ByteArray):VL w D (.txt s.data.toList) (.iface 193 (.string s)):=by rw[VL];exact⟨s,rfl,rfl⟩
theorem vlen_le:∀l:List PV,l.length≤wtVs l
 | []=>by simp
 | a::r=>by rw[wtVs,List.length_cons];have:=wtV_pos a;have:=vlen_le r;omega
attribute [local go_sem] va_num_num va_num_txt va_num_lst va_txt_num va_txt_txt va_txt_lst va_lst_num va_lst_txt va_lst_lst
theorem truth_any (b:Bool)(w:World):Calls prog 206 #[.bool b] w fun e w'=>e=.returned (.iface 190 (.int .i64 (if b then 1 else 0)))∧w'=w:=by
 cases b
 all_goals
  go_enter func206,ntmps206
  go_wp2
  go_ret
  exact⟨rfl,rfl⟩
theorem lengthOf_any (D:Nat→Prop)(v:PV)(x:Value)(w:World)(hv:VL w D v x)(hw:wtV v≤600):
  Calls prog 183 #[x] w (vePost D w (lengV v)):=by
 cases v with
 | num z =>
  rw[VL] at hv
  subst hv
  go_enter func183,ntmps183
  go_wp2
  go_ret2
  exact ve_no (Below.refl _ _) rfl (flt_why _)
 | txt b =>
  rw[VL] at hv
  obtain⟨s,hs,rfl⟩:=hv
  rw[wtV] at hw
  rw[←hs,tl_size] at hw
  have hsi:((s.size:Nat):Int)≤600:=by omega
  have HV:Aside (lengV (.txt b)=some (.num (s.size:Int))):=by show _=_;rw[lengV,←hs,tl_size]
  go_enter func183,ntmps183
  go_wp2
  go_ret2
  exact ve_ok (by first | exact Below.refl _ _ | exact below1 w _) HV.out (VL_num _ _ _)
 | lst l =>
  rw[VL] at hv
  obtain⟨sl,cs,rfl,h2,_⟩:=hv
  obtain⟨ad,cap,rfl⟩:=h2.slice
  rw[wtV] at hw
  have hl:=vlen_le l
  have CI:Hid (∀X,Calls prog 124 #[.agg #[.slice ad l.length cap,.int .i64 ((wtVs l:Nat):Int)]] X _):=fun X=>items2_any ad l.length cap _ X h2.capOr (by omega)
  have hli:((l.length:Nat):Int)≤600:=by omega
  have HV:Aside (lengV (.lst l)=some (.num (l.length:Int))):=show _=_ by rw[lengV]
  clear h2
  generalize lengV (.lst l)=R at *
  go_enter func183,ntmps183
  go_wp2_with (go_at_call 124;refine (CI.out _).mono ?_;rintro e w1 ⟨rfl,hb1⟩)
  go_ret2
  have bX:=below1 w (Obj.cells #[.slice ad l.length cap,.int .i64 ((wtVs l:Nat):Int)] 195)
  exact ve_ok (bX.trans (hb1.mono bX.size)) HV.out (VL_num _ _ _)
end Go.Proofs.YtifhgjpglicjbaaGreatDoor
namespace Go.Proofs.YtifhgjpglicjbaaGreatDoor
open Go.Proofs.Tryz
open Go.RowKit Go.Lib
attribute [local go_sem ↓] Go.wp_at_zero Go.wp_at_succ
attribute [local go_sem] va_num_num va_num_txt va_num_lst va_txt_num va_txt_txt va_txt_lst va_lst_num va_lst_txt va_lst_lst
def pinPost (D:Nat→Prop)(w:World)(a b:PV)(e:Ending)(w':World):Prop :=
 Below w.heap.size w w'∧((∃(l:List PV) (i:Nat) (g o:Nat) (cs:List Value),a=.lst l∧b=.num (i:Int)∧i<l.length∧e=.returned (.tuple #[.slice (some ⟨g,o,none⟩) l.length l.length,.int .i64 ((i:Nat):Int),.nilIface])∧SegAt w' D 74 1 (.slice (some ⟨g,o,none⟩) l.length l.length) l.length cs∧VLs w' D l cs) ∨
  ((∀l i,a=.lst l→b=.num i→¬ (0≤i∧i<l.length))∧∃b',e=.returned (.tuple #[.slice none 0 0,.int .i64 0,whyB b'])))
theorem pin_no {D:Nat→Prop}{w w':World}{a b:PV}{b':ByteArray}(hb:Below w.heap.size w w')(h:∀l i,a=.lst l→b=.num i→¬ (0≤i∧i<l.length)):pinPost D w a b (.returned (.tuple #[.slice none 0 0,.int .i64 0,whyB b'])) w':=⟨hb,Or.inr ⟨h,b',rfl⟩⟩
theorem VL_kind {w:World}{D:Nat→Prop}{v:PV}{x:Value}(h:VL w D v x):(∃z,v=.num z∧x=.iface 190 (.int .i64 z))∨(∃s:ByteArray,v=.txt s.data.toList∧x=.iface 193 (.string s))∨(∃l ad cap cs,v=.lst l∧x=.iface 195 (.agg #[.slice ad l.length cap,.int .i64 ((wtVs l:Nat):Int)])∧SegAt w D 74 1 (.slice ad l.length cap) l.length cs∧VLs w D l cs):=by
 cases v with
 | num z=>rw[VL] at h;exact Or.inl ⟨z,rfl,h⟩
 | txt b=>rw[VL] at h;obtain⟨s,rfl,h⟩:=h;exact Or.inr (Or.inl ⟨s,rfl,h⟩)
 | lst l =>
  rw[VL] at h
  obtain⟨sl,cs,rfl,h2,h3⟩:=h
  obtain⟨ad,cap,rfl⟩:=h2.slice
  exact Or.inr (Or.inr ⟨l,ad,cap,cs,rfl,rfl,h2,h3⟩)
theorem placeIn_any (D:Nat→Prop)(a b:PV)(x y:Value)(w:World)(ha:VL w D a x)(hb:VL w D b y)(hw:wtV a≤600):
  Calls prog 210 #[x,y] w (pinPost D w a b):=by
 rcases VL_kind ha with ⟨z,rfl,rfl⟩ | ⟨s,rfl,rfl⟩ | ⟨l,ad,cap,cs,rfl,rfl,hseg,hvs⟩
 ·rcases VL_kind hb with ⟨z2,rfl,rfl⟩ | ⟨s2,rfl,rfl⟩ | ⟨l2,ad2,cap2,cs2,rfl,rfl,_,_⟩
  all_goals
   clear ha hb
   go_enter func210,ntmps210
   go_wp2
   exact bodyPost_ret (v:=.tuple #[.slice none 0 0,.int .i64 0,whyB _]) (by simp[results,results210,go_sem];rfl) rfl (pin_no (by first | exact Below.refl _ _ | exact below1 w _) (fun l i h1 h2=>by first | (cases h1;done) | (cases h2;done)))
 ·rcases VL_kind hb with ⟨z2,rfl,rfl⟩ | ⟨s2,rfl,rfl⟩ | ⟨l2,ad2,cap2,cs2,rfl,rfl,_,_⟩
  all_goals
   clear ha hb
   go_enter func210,ntmps210
   go_wp2
   exact bodyPost_ret (v:=.tuple #[.slice none 0 0,.int .i64 0,whyB _]) (by simp[results,results210,go_sem];rfl) rfl (pin_no (by first | exact Below.refl _ _ | exact below1 w _) (fun l i h1 h2=>by first | (cases h1;done) | (cases h2;done)))
 ·rcases VL_kind hb with ⟨z2,rfl,rfl⟩ | ⟨s2,rfl,rfl⟩ | ⟨l2,ad2,cap2,cs2,rfl,rfl,_,_⟩
  ·rw[wtV] at hw
   have hl:=vlen_le l
   have bX:=below1 w (Obj.cells #[.slice ad l.length cap,.int .i64 ((wtVs l:Nat):Int)] 195)
   have CI:Hid (∀X,Calls prog 124 #[.agg #[.slice ad l.length cap,.int .i64 ((wtVs l:Nat):Int)]] X _):=fun X=>items2_any ad l.length cap _ X hseg.capOr (by omega)
   have hli:((l.length:Nat):Int)≤600:=by omega
   by_cases hi:0≤z2∧z2<(l.length:Int)
   ·obtain⟨i,rfl⟩:∃i:Nat,z2=(i:Int):=⟨z2.toNat,by omega⟩
    have hi2:i<l.length:=by omega
    obtain⟨g,o,cp,hcap,_⟩:=hseg.cell (by omega)
    cases hcap
    have FIN:Hid (∀X,Below w.heap.size w X→pinPost D w (.lst l) (.num (i:Int)) (.returned (.tuple #[.slice (some ⟨g,o,none⟩) l.length l.length,.int .i64 ((i:Nat):Int),.nilIface])) X):=fun X hX=>⟨hX,Or.inl ⟨l,i,g,o,cs,rfl,rfl,hi2,rfl,hseg.clip.below hX,hvs.below hX⟩⟩
    have hi3:¬ ((l.length:Nat):Int)≤(i:Int):=by omega
    have hi4:(i:Int)<((l.length:Nat):Int):=by omega
    clear ha hb hvs hseg hi
    go_enter func210,ntmps210
    go_wp2_with (go_at_call 124;refine (CI.out _).mono ?_;rintro e w1 ⟨rfl,hb1⟩)
    exact bodyPost_ret (v:=.tuple #[.slice (some ⟨g,o,none⟩) l.length l.length,.int .i64 ((i:Nat):Int),.nilIface]) (by simp[results,results210,go_sem]) rfl (FIN.out _ (bX.trans (hb1.mono bX.size)))
   ·have FIN:Hid (∀X b,Below w.heap.size w X→pinPost D w (.lst l) (.num z2) (.returned (.tuple #[.slice none 0 0,.int .i64 0,whyB b])) X):=fun X b hX=>pin_no hX fun l' i h1 h2=>by cases h1;cases h2;exact hi
    clear ha hb hvs hseg
    by_cases hz:z2<0
    ·clear hi
     go_enter func210,ntmps210
     go_wp2_with (go_at_call 124;refine (CI.out _).mono ?_;rintro e w1 ⟨rfl,hb1⟩)
     exact bodyPost_ret (v:=.tuple #[.slice none 0 0,.int .i64 0,whyB _]) (by simp[results,results210,go_sem];rfl) rfl (FIN.out _ _ (bX.trans (hb1.mono bX.size)))
    ·have hz2:((l.length:Nat):Int)≤z2:=by omega
     have hz3:0≤z2:=by omega
     clear hi hz
     go_enter func210,ntmps210
     go_wp2_with (go_at_call 124;refine (CI.out _).mono ?_;rintro e w1 ⟨rfl,hb1⟩)
     exact bodyPost_ret (v:=.tuple #[.slice none 0 0,.int .i64 0,whyB _]) (by simp[results,results210,go_sem];rfl) rfl (FIN.out _ _ (bX.trans (hb1.mono bX.size)))
  all_goals
   clear ha hb hseg hvs
   go_enter func210,ntmps210
   go_wp2
   exact bodyPost_ret (v:=.tuple #[.slice none 0 0,.int .i64 0,whyB _]) (by simp[results,results210,go_sem];rfl) rfl (pin_no (by first | exact Below.refl _ _ | exact below1 w _) (fun l i h1 h2=>by first | (cases h1;done) | (cases h2;done)))
theorem atV_eq {l:List PV}{i:Nat}(hi:i<l.length):atV l (i:Int)=some l[i]:=by simp[atV,hi]
theorem atV_no {l:List PV}{i:Int}(h:¬ (0≤i∧i<l.length)):atV l i=none:=by
 unfold atV
 split
 ·rw[List.getElem?_eq_none];omega
 ·rfl
def at2:PV→PV→Option PV
 | .lst l,.num i=>atV l i
 | _,_=>none
theorem at2_no {a b:PV}(h:∀l i,a=.lst l→b=.num i→¬ (0≤i∧i<l.length)):at2 a b=none:=by
 cases a with
 | lst l =>
  cases b with
  | num i=>exact atV_no (h l i rfl rfl)
  | txt _=>rfl
  | lst _=>rfl
 | num _=>rfl
 | txt _=>rfl
theorem itemAt_any (D:Nat→Prop)(a b:PV)(x y:Value)(w:World)(ha:VL w D a x)(hb:VL w D b y)(hw:wtV a≤600):
  Calls prog 208 #[x,y] w (vePost D w (at2 a b)):=by
 have CP:=placeIn_any D a b x y w ha hb hw
 obtain⟨tx,xx,rfl⟩:=ha.iface
 obtain⟨ty,yy,rfl⟩:=hb.iface
 have hl:∀l,a=.lst l→l.length≤600:=fun l h=>by subst h;rw[wtV] at hw;have:=vlen_le l;omega
 clear ha hb hw
 go_enter func208,ntmps208
 go_wp2_with fail
 refine CP.mono ?_
 rintro e w1 ⟨hb1,⟨l,i,g,o,cs,rfl,rfl,hi,rfl,hseg,hvs⟩ | ⟨hno,b',rfl⟩⟩
 ·have hl2:=hl l rfl
  obtain⟨x,hx,hv⟩:=hvs.at i hi
  obtain⟨t,y,rfl⟩:=hv.iface
  obtain⟨g',o',cp,hcap,_,_,_,hc⟩:=hseg.cell (by omega)
  cases hcap
  have c0:w1.cell? ⟨g,o+i,none⟩=some (.iface t y):=by rw[hc i (by omega)];exact hx
  have HV:Aside (at2 (.lst l) (.num (i:Int))=some l[i]):=show _=_ from atV_eq hi
  have hi3:(i:Int)<((l.length:Nat):Int):=by omega
  clear hseg hvs hx hc hl CP
  generalize at2 (.lst l) (.num (i:Int))=R at *
  go_wp2_with fail
  go_ret2
  exact ve_ok hb1 HV.out hv
 ·have HV:Aside (at2 a b=none):=at2_no hno
  generalize at2 a b=R at *
  clear hl CP
  go_wp2_with fail
  go_ret2
  exact ve_no hb1 HV.out (flt_why _)
end Go.Proofs.YtifhgjpglicjbaaGreatDoor
namespace Go.Proofs.YtifhgjpglicjbaaGreatDoor
open Go.Proofs.Tryz
open Go.Lib
structure Mk where
 num:Nat
 note:Option (List UInt8)
def mk0:Mk:=⟨0,none⟩
structure Hd where
 ev:List UInt8
 msg:PV
 stops:Bool
inductive Nd where
 | txt (m:Mk) (s:List UInt8)
 | el (m:Mk) (tag:List UInt8) (ats:List (List UInt8×List UInt8)) (hs:List Hd) (ks:List Nd)
 | ky (m:Mk) (tag:List UInt8) (ats:List (List UInt8×List UInt8)) (hs:List Hd) (keys:List (List UInt8)) (ks:List Nd)
 | tg (f:List UInt8) (n:Nd)
 | lz (f:List UInt8) (args:List PV) (n:Nd)
def wordN (b:List UInt8):Bool:=decide (1≤b.length)&&decide (b.length≤8)&&b.all letter
def attr1 (ats:List (List UInt8×List UInt8))(hs:List Hd):PV→Option (List (List UInt8×List UInt8)×List Hd)
 | .lst (.txt n::r) =>
  if n=[111,110] then match r with
   | [.txt e,m]=>if wordN e then some (ats,hs++[⟨e,m,false⟩]) else none
   | [.txt e,m,.num z]=>if wordN e then some (ats,hs++[⟨e,m,decide (z≠0)⟩]) else none
   | _=>none
  else match r with
   | [.txt t]=>if wordN n then some (ats++[(n,t)],hs) else none
   | _=>none
 | _=>none
def attrL:List (List UInt8×List UInt8)→List Hd→List PV→Option (List (List UInt8×List UInt8)×List Hd)
 | ats,hs,[]=>some (ats,hs)
 | ats,hs,v::r=>match attr1 ats hs v with
  | none=>none
  | some (ats',hs')=>attrL ats' hs' r
def pairL:List (List UInt8)→List PV→List PV→Option (List (List UInt8)×List PV)
 | ks,vs,[]=>some (ks,vs)
 | ks,vs,.lst [.txt k,v]::r=>if k∈ks then none else pairL (ks++[k]) (vs++[v]) r
 | _,_,_::_=>none
def shpL (S:Nat→PV→Option (Nd×Nat)):Nat→List PV→Option (List Nd×Nat)
 | c,[]=>some ([],c)
 | c,v::r=>match S c v with
  | none=>none
  | some (n,c1)=>match shpL S c1 r with
   | none=>none
   | some (ns,c2)=>some (n::ns,c2)
def shpX (fns:List Fn)(S:Nat→PV→Option (Nd×Nat))(c:Nat):List PV→Option (Nd×Nat)
 | .txt w::r =>
  if w=[101,108] then match r with
   | [.txt t,.lst ats,.lst ks]=>if wordN t then match attrL [] [] ats with
     | none=>none
     | some (ats',hs)=>match shpL S c ks with
      | none=>none
      | some (ns,c')=>some (.el mk0 t ats' hs ns,c')
    else none
   | _=>none
  else if w=[107,101,121,101,100] then match r with
   | [.txt t,.lst ats,.lst ps]=>if wordN t then match attrL [] [] ats with
     | none=>none
     | some (ats',hs)=>match pairL [] [] ps with
      | none=>none
      | some (keys,ks)=>match shpL S c ks with
       | none=>none
       | some (ns,c')=>some (.ky mk0 t ats' hs keys ns,c')
    else none
   | _=>none
  else if w=[116,97,103] then match r with
   | [.txt f,v]=>if hasP f 1 fns then match S c v with
     | none=>none
     | some (n,c')=>some (.tg f n,c')
    else none
   | _=>none
  else if w=[108,97,122,121] then match r with
   | .txt f::args=>if hasP f args.length fns then match reckP fns f args with
     | none=>none
     | some v=>match S c v with
      | none=>none
      | some (n,c')=>some (.lz f args n,c')
    else none
   | _=>none
  else none
 | _=>none
def shp (fns:List Fn):Nat→Nat→PV→Option (Nd×Nat)
 | 0,_,_=>none
 | f+1,c,v=>if 100≤c then none else match v with
  | .num z=>some (.txt mk0 (itoa z),c+1)
  | .txt b=>some (.txt mk0 b,c+1)
  | .lst l=>shpX fns (shp fns f) (c+1) l
def bareN:Nd→Nd
 | .tg _ n=>bareN n
 | .lz _ _ n=>bareN n
 | n=>n
def alikeN:Nd→Nd→Bool
 | .txt _ _,.txt _ _=>true
 | .el _ t _ _ _,.el _ u _ _ _=>t==u
 | .ky _ t _ _ _ _,.ky _ u _ _ _ _=>t==u
 | _,_=>false
def markN:Nd→Mk
 | .txt m _=>m
 | .el m _ _ _ _=>m
 | .ky m _ _ _ _ _=>m
 | _=>mk0
def kidsN:Nd→List Nd
 | .el _ _ _ _ ks=>ks
 | .ky _ _ _ _ _ ks=>ks
 | _=>[]
def keysN:Nd→List (List UInt8)
 | .ky _ _ _ _ keys _=>keys
 | _=>[]
def partN (keys:List (List UInt8))(keyed:Bool)(i:Nat)(o:Nd):Option Nd :=
 if keyed then match keys[i]? with
  | none=>none
  | some k=>match (keysN o).findIdx? (·==k) with
   | none=>none
   | some j=>(kidsN o)[j]?
 else (kidsN o)[i]?
def oldN (x:Nd):Option Nd→Option Nd
 | none=>none
 | some o=>if alikeN x (bareN o) then some (bareN o) else none
def markFor (o:Option Nd)(last:Nat):Mk×Nat:=match o with
 | some o=>(markN o,last)
 | none=>(⟨last+1,none⟩,last+1)
mutual
def matchN:Nd→Option Nd→Nat→Nd×Nat
 | .txt m s,o,last=>match markFor (oldN (.txt m s) o) last with
  |(m',l')=>(.txt m' s,l')
 | .el m t ats hs ks,o,last=>match markFor (oldN (.el m t ats hs []) o) last with
  |(m',l')=>match matchL [] false (oldN (.el m t ats hs []) o) 0 ks l' with
   |(ks',l'')=>(.el m' t ats hs ks',l'')
 | .ky m t ats hs keys ks,o,last=>match markFor (oldN (.ky m t ats hs keys []) o) last with
  |(m',l')=>match matchL keys true (oldN (.ky m t ats hs keys []) o) 0 ks l' with
   |(ks',l'')=>(.ky m' t ats hs keys ks',l'')
 | .tg f n,o,last=>match matchN n o last with
  |(n',l')=>(.tg f n',l')
 | .lz f args n,o,last=>match matchN n o last with
  |(n',l')=>(.lz f args n',l')
def matchL (keys:List (List UInt8))(keyed:Bool)(o:Option Nd):Nat→List Nd→Nat→List Nd×Nat
 | _,[],last=>([],last)
 | i,n::r,last=>match matchN n (o.bind (partN keys keyed i)) last with
  |(n',l')=>match matchL keys keyed o (i+1) r l' with
   |(r',l'')=>(n'::r',l'')
end
def markT (m:Mk):List UInt8:=35::(itoa m.num++match m.note with
 | none=>[]
 | some b=>33::39::(b++[39]))
def attrT:List (List UInt8×List UInt8)→List UInt8
 | []=>[]
 |(n,t)::r=>32::(n++[61,39]++t++[39]++attrT r)
mutual
def treeT:Nd→List UInt8
 | .txt m s=>markT m++[32,39]++s++[39]
 | .el m t ats _ ks=>60::(t++markT m++attrT ats++[62]++treesT ks++[60,47]++t++[62])
 | .ky m t ats _ _ ks=>60::(t++markT m++attrT ats++[62]++treesT ks++[60,47]++t++[62])
 | .tg _ n=>treeT n
 | .lz _ _ n=>treeT n
def treesT:List Nd→List UInt8
 | []=>[]
 | n::r=>treeT n++treesT r
end
structure PApp where
 fns:List Fn
 model:PV
 queue:List PV
 shown:Option Nd
 dirty:Bool
 last:Nat
def handleP (a:PApp)(m:PV):PApp:={ a with dirty:=true,model:=(reckP a.fns [117,112,100,97,116,101] [m,a.model]).getD a.model }
def pumpP:Nat→PApp→PApp×Nat
 | 0,a=>(a,0)
 | k+1,a=>match a.queue with
  | []=>(a,0)
  | m::r=>match pumpP k (handleP { a with queue:=r } m) with
   |(a',n)=>(a',n+1)
def sendP (a:PApp)(s:List UInt8):PApp×Bool:=match readV s with
 | none=>(a,false)
 | some v=>(if 12<a.queue.length+1 then a else { a with queue:=a.queue++[v] },true)
def frameP (a:PApp):PApp×Bool :=
 if a.shown.isSome && !a.dirty then (a,true)
 else match reckP a.fns [118,105,101,119] [a.model] with
  | none=>({ a with dirty:=false },false)
  | some v=>match shp a.fns 101 0 v with
   | none=>({ a with dirty:=false },false)
   | some (n,_)=>match matchN n a.shown a.last with
    |(n',l')=>({ a with dirty:=false,shown:=some n',last:=l' },true)
theorem runL_iff (p:UInt8→Bool):∀l:List UInt8,(runL p l=l.length) ↔ l.all p=true
 | []=>by simp[runL]
 | c::r=>by
  have ih:=runL_iff p r
  by_cases h:p c=true
  ·simp[runL,h,←ih]
  ·simp[runL,h]
end Go.Proofs.YtifhgjpglicjbaaGreatDoor
namespace Go.Proofs.YtifhgjpglicjbaaGreatDoor
open Go.Proofs.Tryz
open Go.RowKit Go.Lib
attribute [local go_sem ↓] Go.wp_at_zero Go.wp_at_succ
theorem all_len (p:UInt8→Bool)(s:ByteArray):s.data.toList.all p=decide ((runL p s.data.toList:Int)=(s.size:Int)):=by
 have h:=runL_iff p s.data.toList
 have ld:s.data.toList.length=s.size:=by simp
 rw[ld] at h
 by_cases ha:s.data.toList.all p=true
 ·rw[ha,h.2 ha]
  simp
 ·have:runL p s.data.toList≠s.size:=fun e=>ha (h.1 e)
  simp only[ha]
  simp
  omega
theorem are_isLetter (s:ByteArray)(w:World)(hs:s.size≤maxLen):
  Calls prog 41 #[.string s,.func (.func 131) #[] #[]] w fun e w'=>e=.returned (.bool (s.data.toList.all letter))∧w'=w:=by
 rw[all_len]
 have CR:=run_isLetter s w hs
 unfold maxLen at hs
 generalize runL letter s.data.toList=rl at *
 go_enter func41,ntmps41
 go_wp2_with (go_at_call 62;refine CR.mono ?_;rintro e w1 ⟨rfl,rfl⟩)
 go_ret
 exact⟨rfl,rfl⟩
theorem are_isQuotable (s:ByteArray)(w:World)(hs:s.size≤maxLen):
  Calls prog 41 #[.string s,.func (.func 42) #[] #[]] w fun e w'=>e=.returned (.bool (s.data.toList.all quot))∧w'=w:=by
 rw[all_len]
 have CR:=run_isQuotable s w hs
 unfold maxLen at hs
 generalize runL quot s.data.toList=rl at *
 go_enter func41,ntmps41
 go_wp2_with (go_at_call 62;refine CR.mono ?_;rintro e w1 ⟨rfl,rfl⟩)
 go_ret
 exact⟨rfl,rfl⟩
theorem isWord_any (s:ByteArray)(w:World)(hs:s.size≤maxLen):
  Calls prog 214 #[.string s] w fun e w'=>e=.returned (.bool (wordN s.data.toList))∧w'=w:=by
 have CA:=are_isLetter s w hs
 have ld:s.data.toList.length=s.size:=by simp
 have HE:Aside (wordN s.data.toList=(decide (1≤s.size)&&decide (s.size≤8)&&s.data.toList.all letter)):=by
  show _=_
  unfold wordN
  rw[ld]
 generalize wordN s.data.toList=R at *
 generalize s.data.toList.all letter=al at *
 unfold maxLen at hs
 by_cases h1:1≤s.size
 ·have hi:(1:Int)≤(s.size:Int):=by omega
  by_cases h8:s.size≤8
  ·have hi8:(s.size:Int)≤8:=by omega
   have HR:Aside (R=al):=by show _=_;rw[HE.out];simp[h1,h8]
   clear HE ld
   go_enter func214,ntmps214
   go_wp2_with (go_at_call 41;refine CA.mono ?_;rintro e w1 ⟨rfl,rfl⟩)
   go_ret
   exact⟨by rw[HR.out];rfl,rfl⟩
  ·have hi8:decide ((s.size:Int)≤8)=false:=decide_eq_false (by omega)
   have HR:Aside (R=false):=by show _=_;rw[HE.out];simp[h8]
   clear HE ld
   go_enter func214,ntmps214
   go_wp2_with fail
   go_ret
   exact⟨by rw[HR.out];rfl,rfl⟩
 ·have hi:decide ((1:Int)≤(s.size:Int))=false:=decide_eq_false (by omega)
  have HR:Aside (R=false):=by show _=_;rw[HE.out];simp[h1]
  clear HE ld
  go_enter func214,ntmps214
  go_wp2_with fail
  go_ret
  exact⟨by rw[HR.out];rfl,rfl⟩
end Go.Proofs.YtifhgjpglicjbaaGreatDoor
namespace Go.Proofs.YtifhgjpglicjbaaGreatDoor
open Go.Proofs.Tryz
open Go.RowKit Go.Lib
theorem SegAt.pre {w:World}{D:Nat→Prop}{e:TypeId}{size g o n cap:Nat}{xs:List Value}(h:SegAt w D e size (.slice (some ⟨g,o,none⟩) n cap) n xs)(m:Nat)(hm:m≤n):SegAt w D e size (.slice (some ⟨g,o,none⟩) m cap) m (xs.take (m*size)):=by
 have hmul:m*size≤n*size:=Nat.mul_le_mul_right _ hm
 rcases Nat.eq_zero_or_pos m with h0 | h0
 ·subst h0
  exact⟨by simp,Or.inl ⟨⟨_,_,rfl⟩,rfl⟩⟩
 ·rcases h.2 with ⟨_,hz⟩ | ⟨g',o',cap',cur,hv,hg,hh,hc,hmx,hz,ht⟩
  ·omega
  ·cases hv
   refine⟨by rw[List.length_take,h.1];omega,Or.inr ⟨g,o,cap,cur,rfl,hg,hh,by omega,hmx,hz,?_⟩⟩
   rw[←ht,List.take_take,Nat.min_eq_left hmul]
theorem SegAt.suf {w:World}{D:Nat→Prop}{e:TypeId}{size g o n cap:Nat}{xs:List Value}(h:SegAt w D e size (.slice (some ⟨g,o,none⟩) n cap) n xs)(i:Nat)(hi:i≤n):SegAt w D e size (.slice (some ⟨g,o+i*size,none⟩) (n-i) (cap-i)) (n-i) (xs.drop (i*size)):=by
 rcases Nat.eq_zero_or_pos (n-i) with h0 | h0
 ·have hmul:n*size≤i*size:=Nat.mul_le_mul_right _ (by omega)
  refine⟨by simp[h.1,Nat.sub_mul],Or.inl ⟨⟨_,_,by rw[h0]⟩,h0⟩⟩
 ·have:=h.sub i (n-i) (by omega) h0
  rw[List.take_of_length_le (by simp[h.1,Nat.sub_mul])] at this
  exact this
end Go.Proofs.YtifhgjpglicjbaaGreatDoor
