/-
  parse of package program: the functions of a text, or the first thing that is wrong with its tokens.
-/
import Derived.Test.YtifhgjpglicjbaaGreatDoorExpr
import Derived.Deep.RegionLawGrows
import Derived.Test.YtifhgjpglicjbaaGreatDoorRowK
import Derived.Maps.OwnSet
import Derived.Deep.DeepCutAuto
set_option maxHeartbeats 2000000
set_option maxRecDepth 20000
namespace Go.Proofs.YtifhgjpglicjbaaGreatDoor
open Go.Proofs.Tryz
open Go.RowKit
attribute [local go_sem ↓] Go.wp_at_zero Go.wp_at_succ
structure FnV where
 nb:ByteArray
 at_:Nat
 pv:Value
 bv:Value
def fnCells:List FnV→List Value
 | []=>[]
 | x::r=>.string x.nb::.int .i64 ((x.at_:Nat):Int)::x.pv::x.bv::fnCells r
theorem fnCells_snoc (l:List FnV)(x:FnV):fnCells (l++[x])=fnCells l++[.string x.nb,.int .i64 ((x.at_:Nat):Int),x.pv,x.bv]:=by
 induction l with
 | nil=>rfl
 | cons y l ih=>simp[fnCells,ih]
def FnRep (w:World)(D:Nat→Prop)(x:FnV)(fn:Fn):Prop :=
 x.nb.data.toList=fn.name∧x.at_=fn.at_∧(∃bs,plainNames bs=fn.params∧RowAt w D 61 2 x.pv bs.length (nameCells bs))∧RepE w D fn.body x.bv
def FnsRep (w:World)(D:Nat→Prop):List FnV→List Fn→Prop
 | [],fns=>fns=[]
 | x::xs,fns=>∃fn r,fns=fn::r∧FnRep w D x fn∧FnsRep w D xs r
theorem FnRep.map {w w':World}{D D':Nat→Prop}(hR:∀(e:TypeId) size sl n vs,RowAt w D e size sl n vs→RowAt w' D' e size sl n vs){x:FnV}{fn:Fn}(h:FnRep w D x fn):FnRep w' D' x fn :=
 ⟨h.1,h.2.1,h.2.2.1.elim fun bs hb=>⟨bs,hb.1,hR _ _ _ _ _ hb.2⟩,h.2.2.2.map fun _ _ _ hr=>hR _ _ _ _ _ hr⟩
theorem FnsRep.map {w w':World}{D D':Nat→Prop}(hR:∀(e:TypeId) size sl n vs,RowAt w D e size sl n vs→RowAt w' D' e size sl n vs):∀{xs:List FnV} {fns:List Fn},FnsRep w D xs fns→FnsRep w' D' xs fns
 | [],fns,h=>h
 | x::xs,fns,h=>by
  obtain⟨fn,r,h1,h2,h3⟩:=h
  exact⟨fn,r,h1,h2.map hR,FnsRep.map hR h3⟩
theorem FnsRep.keep {w w':World}{D:Nat→Prop}{xs:List FnV}{fns:List Fn}(h:FnsRep w D xs fns)(hS:Same D w w'):FnsRep w' (fun k=>D k∧k<w.heap.size) xs fns:=h.map fun _ _ _ _ _ hr=>hr.keep hS
theorem FnsRep.weaken {w:World}{D D':Nat→Prop}{xs:List FnV}{fns:List Fn}(h:FnsRep w D xs fns)(hD:∀k,D k→D' k):FnsRep w D' xs fns:=h.map fun _ _ _ _ _ hr=>hr.weaken hD
theorem FnsRep.length {w:World}{D:Nat→Prop}:∀{xs:List FnV} {fns:List Fn},FnsRep w D xs fns→xs.length=fns.length
 | [],fns,h=>by rw[show fns=[] from h];rfl
 | x::xs,fns,h=>by
  obtain⟨fn,r,rfl,_,h3⟩:=h
  simp[FnsRep.length h3]
theorem FnsRep.snoc {w:World}{D:Nat→Prop}{x:FnV}{fn:Fn}(hx:FnRep w D x fn):∀{xs:List FnV} {fns:List Fn},FnsRep w D xs fns→FnsRep w D (xs++[x]) (fns++[fn])
 | [],fns,h=>by rw[show fns=[] from h];exact⟨fn,[],rfl,hx,rfl⟩
 | y::xs,fns,h=>by
  obtain⟨g,r,rfl,h2,h3⟩:=h
  exact⟨g,r++[fn],rfl,h2,FnsRep.snoc hx h3⟩
def addF (pre:List Fn):Res (List Fn)→Res (List Fn)
 | .ok es r=>.ok (pre++es) r
 | .err c a=>.err c a
theorem addF_cons (pre:List Fn)(e:Fn)(r:Res (List Fn)):addF pre (consF e r)=addF (pre++[e]) r:=by cases r<;>simp[addF,consF]
theorem Tryz.infoFunction:(prog.info? 66).map (fun i=>(i.zero,i.size,i.bytes))=some (some zeroFn,4,64):=by kernel_rfl
theorem cell_four_new (w:World)(x y z u:Value)(t:TypeId):∀j v,[x,y,z,u][j]?=some v→(w.alloc (.cells #[x,y,z,u] t)).cell? ((⟨w.heap.size,0,none⟩:Addr).add j)=some v:=by
 intro j v hj
 match j,hj with
 | 0,hj=>simp at hj;subst hj;simp[Addr.add]
 | 1,hj=>simp at hj;subst hj;simp[Addr.add]
 | 2,hj=>simp at hj;subst hj;simp[Addr.add]
 | 3,hj=>simp at hj;subst hj;simp[Addr.add]
 | j+4,hj=>simp at hj
def parsePost (r:Res (List Fn))(w:World)(aT aD:Addr)(e:Ending)(w':World):Prop :=
 Below w.heap.size w w'∧match r with
 | .err c a=>e=.returned (.tuple #[.slice none 0 0,wrongV a (errOf c aT aD)])
 | .ok fns _=>∃v xs,e=.returned (.tuple #[v,.nilIface])∧RowAt w' (w.heap.size≤·) 66 4 v xs.length (fnCells xs)∧FnsRep w' (w.heap.size≤·) xs fns
theorem pz_start (s:ByteArray)(w:World)(aT aD:Addr)(hs:s.size≤2000)(eT:w.cell? ⟨6,0,none⟩=some (errVal aT))(eD:w.cell? ⟨1,0,none⟩=some (errVal aD))(h15:15≤w.heap.size):
  let X:=(w.alloc (.cells #[.string s,.int .i64 0] 236)).alloc (.cells #[.pointer (some ⟨w.heap.size,0,none⟩),.int .i64 0] 170)
  Pz X (w.heap.size+1) w.heap.size s aT aD 0 0∧Below w.heap.size w X∧X.heap.size=w.heap.size+2:=by
 have hb1:(w.alloc (Obj.cells #[.string s,.int .i64 0] 236)).heap[w.heap.size]?=some (.cells #[.string s,.int .i64 0] 236):=heap_alloc_new _ _
 have hz1:(w.alloc (Obj.cells #[.string s,.int .i64 0] 236)).heap.size=w.heap.size+1:=by simp
 have hb2:((w.alloc (Obj.cells #[.string s,.int .i64 0] 236)).alloc (.cells #[.pointer (some ⟨w.heap.size,0,none⟩),.int .i64 0] 170)).heap[w.heap.size+1]?=some (.cells #[.pointer (some ⟨w.heap.size,0,none⟩),.int .i64 0] 170):=by
  have:=heap_alloc_new (w.alloc (Obj.cells #[.string s,.int .i64 0] 236)) (.cells #[.pointer (some ⟨w.heap.size,0,none⟩),.int .i64 0] 170)
  rw[hz1] at this
  exact this
 have hb3:((w.alloc (Obj.cells #[.string s,.int .i64 0] 236)).alloc (.cells #[.pointer (some ⟨w.heap.size,0,none⟩),.int .i64 0] 170)).heap[w.heap.size]?=some (.cells #[.string s,.int .i64 0] 236):=by
  rw[Below.heap_alloc _ _ _ (by rw[hz1];omega)]
  exact hb1
 refine⟨⟨?_,?_,?_,⟨?_,?_,?_⟩,alloc_cell (alloc_cell eT),alloc_cell (alloc_cell eD),hs,by omega,by omega,by omega,by omega,by omega⟩,((Below.refl _ _).alloc (Nat.le_refl _) _).alloc (by rw[hz1];omega) _,by simp⟩
 ·unfold World.cell?;rw[hb2];rfl
 ·unfold World.cell?;rw[hb2];rfl
 ·unfold World.frozen?;rw[hb2];rfl
 ·unfold World.cell?;rw[hb3];rfl
 ·unfold World.cell?;rw[hb3];rfl
 ·unfold World.frozen?;rw[hb3];rfl
theorem below_of_pt {w X wr:World}(hX:Below w.heap.size w X)(h:PT (w.heap.size+1) w.heap.size X wr):Below w.heap.size w wr :=
 Touch.fresh hX h (fun k hk=>by rintro (g | g)<;>omega)
theorem parse_any (s:ByteArray)(w:World)(aT aD:Addr)(hs:s.size≤2000)(eT:w.cell? ⟨6,0,none⟩=some (errVal aT))(eD:w.cell? ⟨1,0,none⟩=some (errVal aD))(h15:15≤w.heap.size){ts:List Tok}(hts:IsToks s.data.toList 0 ts):
  Calls prog 48 #[.string s] w (parsePost (pProg (ts.length+1) ts) w aT aD):=by
 have hlen:=hts.len (by omega)
 rw[len_data] at hlen
 go_enter func48,ntmps48
 go_wp2
 obtain⟨hz,hbX,hsX⟩:=pz_start s w aT aD hs eT eD h15
 generalize (w.alloc (Obj.cells #[.string s,.int .i64 0] 236)).alloc (Obj.cells #[.pointer (some ⟨w.heap.size,0,none⟩),.int .i64 0] 170)=X at *
 clear eT eD
 go_loopg [5] ts.length (fun k v wr=>∃f fns xs ts2 q2,k=ts2.length∧ts2.length+1≤f∧fns.length+ts2.length≤ts.length∧wr.ownsRow X.heap.size 66 4 v xs.length (fnCells xs)∧FnsRep wr (fun k=>X.heap.size≤k∧some k≠v.ownBlock) xs fns∧PT (w.heap.size+1) w.heap.size X wr∧Pz wr (w.heap.size+1) w.heap.size s aT aD q2 0∧IsToks s.data.toList q2 ts2∧pProg (ts.length+1) ts=addF fns (pProg f ts2))
 case atStart =>
  refine⟨ts.length+1,[],[],ts,0,rfl,Nat.le_refl _,by simp,World.ownsRow_nil _ _ _ _,rfl,PT.refl X,hz,hts,?_⟩
  cases pProg (ts.length+1) ts<;>rfl
 case round =>
  obtain⟨f,fns,xs,ts2,q2,rfl,hf1,hcount,hown,hrep,hptr,hzr,hq3,heq⟩:=hrel
  obtain⟨t2,ts3,rfl⟩:=hq3.ne
  have r1:=hzr.rdr
  have HE:Aside (pProg (ts.length+1) ts=addF fns (pProg f (t2::ts3))):=heq
  clear heq hts hz
  have hltr:=hzr.lt
  have hszr:=hptr.size
  have HV:Hid (xs.length=fns.length):=hrep.length
  simp only[List.length_cons] at hcount hf1
  obtain⟨f,rfl⟩:∃f',f=f'+1:=⟨f-1,by omega⟩
  obtain⟨ad,cap,rfl⟩:=owns_slice hown
  by_cases hbad:t2.k=.bad
  ·have cn:=next_bad hzr hq3 hbad
   have hP':pProg (ts.length+1) ts=.err 2 t2.at_:=by
    rw[HE.out]
    rcases ts3 with _ | ⟨u,_ | ⟨n,_ | ⟨o,r⟩⟩⟩<;>simp[pProg,pFun,hbad,addF]
   rw[hP']
   go_wp2_with (go_at_call 71;refine cn.mono ?_;rintro e w3 ⟨rfl,hpt5⟩)
   go_ret2
   exact⟨below_of_pt hbX ((hptr.trans hpt5).alloc _),rfl⟩
  have cn:=next_good hzr hq3 hbad
  by_cases heof:t2.k=.eof
  ·have hP':pProg (ts.length+1) ts=.ok fns ts3:=by
    rw[HE.out]
    simp[pProg,heof,addF]
   rw[hP']
   rw[heof] at cn
   clear HE
   go_wp2_with (go_at_call 71;refine cn.mono ?_;rintro e w3 ⟨bd3,rfl,hbd,hbz,hpt5,q5,hz5,hq5⟩)
   go_ret2
   have own4:(w3.alloc (Obj.cells #[.int .i64 (kcode K.eof),.int .i64 ((t2.at_:Nat):Int),.string bd3] 173)).ownsRow X.heap.size 66 4 _ xs.length (fnCells xs):=owns_touch hown (hpt5.alloc _) (fun k hk=>by rintro (g | g)<;>omega)
   have rep4:=(hrep.keep (same_pt (hpt5.alloc (Obj.cells #[.int .i64 (kcode K.eof),.int .i64 ((t2.at_:Nat):Int),.string bd3] 173)) (fun k hk=>by have:=hk.1;omega)))
   exact⟨below_of_pt hbX ((hptr.trans hpt5).alloc _),_,xs,rfl,RowAt.of_owns (owns_mono own4 (by omega)),rep4.weaken fun k hk=>by have:=hk.1.1;omega⟩
  ·have hk0:¬ kcode t2.k=0:=by revert heof;cases t2.k<;>simp[kcode]
   have HG:Aside (pProg (ts.length+1) ts=addF fns (match pFun (f+1) (t2::ts3) with | .err c a=>.err c a | .ok fn r=>consF fn (pProg f r))):=by
    show _=_
    rw[HE.out]
    simp only[pProg,heof,if_false]
    cases pFun (f+1) (t2::ts3)<;>rfl
   clear HE
   go_wp2_with fail
   refine cn.mono ?_
   rintro e w3 ⟨bd3,rfl,hbd,hbz,hpt5,q5,hz5,hq5⟩
   have ce:=function_any (g:=f+1) (hz5.alloc (Obj.cells #[.int .i64 (kcode t2.k),.int .i64 ((t2.at_:Nat):Int),.string bd3] 173)) hq5 bd3 (by omega)
   clear cn
   go_wp2_with fail
   refine ce.mono ?_
   rintro e w4 ⟨pt6,hr⟩
   have pt7:PT (w.heap.size+1) w.heap.size X w4:=((hptr.trans hpt5).alloc _).trans pt6
   have hsz3:=hpt5.size
   have hsa:(w3.alloc (Obj.cells #[.int .i64 (kcode t2.k),.int .i64 ((t2.at_:Nat):Int),.string bd3] 173)).heap.size=w3.heap.size+1:=by simp
   have hsz4:w3.heap.size+1≤w4.heap.size:=by have:=pt6.size;rw[hsa] at this;exact this
   cases hE:pFun (f+1) (t2::ts3) with
   | err c a =>
    rw[hE] at hr
    have hr':e=.returned (.tuple #[zeroFn,wrongV a (errOf c aT aD)]):=hr
    subst hr'
    have HP:Hid (pProg (ts.length+1) ts=.err c a):=show _=_ by rw[HG.out,hE];rfl
    clear HG hE ce hr
    go_wp2
    go_ret2
    refine⟨below_of_pt hbX (pt7.alloc _),?_⟩
    rw[HP.out]
    rfl
   | ok fn rest =>
    rw[hE] at hr
    obtain⟨nb,pv,bv,q6,hnb,rfl,hnames,hrepb,hz6,hq6⟩:=hr
    rw[hsa] at hnames hrepb
    obtain⟨bs,hbs,hownN⟩:=hnames
    obtain⟨pad,pcap,rfl⟩:=owns_slice hownN
    obtain⟨tb,xb,rfl⟩:=hrepb.iface
    have hl:=pFun_len hE
    simp only[List.length_cons] at hl
    have own4:w4.ownsRow X.heap.size 66 4 (.slice ad xs.length cap) xs.length (fnCells xs):=owns_touch hown ((hpt5.alloc _).trans pt6) (fun k hk=>by rintro (g | g)<;>omega)
    have hrowlt:∀k,(Value.slice ad xs.length cap).ownBlock=some k→X.heap.size≤k∧k<wr.heap.size:=fun k hk=>hown.lt k hk
    have rep4:=hrep.keep (same_pt ((hpt5.alloc (Obj.cells #[.int .i64 (kcode t2.k),.int .i64 ((t2.at_:Nat):Int),.string bd3] 173)).trans pt6) (fun k hk=>by have:=hk.1;omega))
    have HG2:Aside (pProg (ts.length+1) ts=addF (fns++[fn]) (pProg f rest)):=by
     show _=_
     rw[HG.out,hE]
     exact addF_cons _ _ _
    have hnx:∀k,w3.heap.size+1≤k→some k≠(Value.slice ad xs.length cap).ownBlock:=fun k hk e=>by have:=(hrowlt k e.symm).2;omega
    have rep5:FnsRep w4 (fun k=>X.heap.size≤k∧some k≠(Value.slice ad xs.length cap).ownBlock) (xs++[⟨nb,fn.at_,.slice pad bs.length pcap,.iface tb xb⟩]) (fns++[fn]) :=
     FnsRep.snoc ⟨hnb,rfl,⟨bs,hbs,(RowAt.of_owns hownN).weaken fun k hk=>⟨by omega,hnx k hk⟩⟩,hrepb.weaken fun k hk=>⟨by omega,hnx k hk⟩⟩ (rep4.weaken fun k hk=>hk.1)
    clear HG hE hrep rep4 hrepb hownN ce
    go_wp2_with (at_builtin;obtain⟨i0,hi,hz0,hz1,hz2⟩:=info_parts Tryz.infoFunction;refine wpList_append_own_at _ rfl _ _ 55 rfl X.heap.size 66 i0 zeroFn 4 64 underlying55 hi hz0 hz1 hz2 rfl (by decide) _ _ _ rfl ((own4.alloc _).alloc _) ⟨w4.heap.size+1,0,none⟩ 1 1 [.string nb,.int .i64 ((fn.at_:Nat):Int),.slice pad bs.length pcap,.iface tb xb] rfl rfl ?_ (fun x hx=>by simp at hx;rcases hx with rfl | rfl | rfl | rfl<;>rfl) (by have:=HV.out;unfold maxLen;omega) (by have:=HV.out;omega) (by simp;omega) ?_;(have:=cell_four_new (w4.alloc (Obj.cells #[.string nb,.int .i64 ((fn.at_:Nat):Int),.slice pad bs.length pcap,.iface tb xb] 66)) (.string nb) (.int .i64 ((fn.at_:Nat):Int)) (.slice pad bs.length pcap) (.iface tb xb) 66;simpa using this);intro v' w6 hown' hgrow hnil hob;clear hi hz0 hz1 hz2)
    go_roundg rest.length
    case measure=>simp;omega
    case rel =>
     have hsg:((w4.alloc (Obj.cells #[.string nb,.int .i64 ((fn.at_:Nat):Int),.slice pad bs.length pcap,.iface tb xb] 66)).alloc (Obj.cells #[.string nb,.int .i64 ((fn.at_:Nat):Int),.slice pad bs.length pcap,.iface tb xb] 66)).heap.size=w4.heap.size+2:=by simp
     have hlen1:(xs++[(⟨nb,fn.at_,.slice pad bs.length pcap,.iface tb xb⟩:FnV)]).length=xs.length+1:=by simp
     refine⟨f,fns++[fn],xs++[⟨nb,fn.at_,.slice pad bs.length pcap,.iface tb xb⟩],rest,q6,rfl,by omega,by simp;omega,by rw[hlen1,fnCells_snoc];exact hown',?_,((pt7.alloc _).alloc _).grown hgrow (fun k hk=>(hrowlt k hk).1),((hz6.alloc _).alloc _).grown hgrow (fun k hk=>by have:=hrowlt k hk;omega),hq6,HG2.out⟩
     have keep6:=(((rep5.keep (w':=(w4.alloc (Obj.cells #[.string nb,.int .i64 ((fn.at_:Nat):Int),.slice pad bs.length pcap,.iface tb xb] 66)).alloc (Obj.cells #[.string nb,.int .i64 ((fn.at_:Nat):Int),.slice pad bs.length pcap,.iface tb xb] 66)) fun k _ hlt=>by rw[Below.heap_alloc _ _ _ (by simp;omega),Below.heap_alloc _ _ _ hlt])).keep (w':=w6) (same_grown hgrow (fun k hk=>hk.1.2)))
     refine keep6.weaken fun k hk=>⟨hk.1.1.1,?_⟩
     rcases hob with h | h
     ·rw[h];exact hk.1.1.2
     ·rw[h,hsg]
      intro e
      have:=hk.1.2
      simp only[Option.some.injEq] at e
      omega
def StrsAt (w:World)(D:Nat→Prop)(sv:Value)(bs:List ByteArray):Prop:=RowAt w D 9 1 sv bs.length (bs.map Value.string)
def hasB (bs:List ByteArray)(v:ByteArray):Bool:=bs.any fun b=>v.toList==b.toList
theorem hasB_iff (bs:List ByteArray)(v:ByteArray):hasB bs v=true ↔ v.data.toList∈bs.map fun b=>b.data.toList:=by
 simp only[hasB,List.any_eq_true,beq_iff_eq,List.mem_map,ByteArray.toList_eq]
 constructor
 ·rintro ⟨b,h1,h2⟩;exact⟨b,h1,h2.symm⟩
 ·rintro ⟨b,h1,h2⟩;exact⟨b,h1,h2.symm⟩
theorem index_any (sv:Value)(bs:List ByteArray)(v:ByteArray)(w:World)(D:Nat→Prop)(h:StrsAt w D sv bs)(hn:bs.length≤100000):
  Calls prog 137 #[sv,.string v] w fun e w'=>(∃i:Int,e=.returned (.int .i64 i)∧((0≤i) ↔ hasB bs v=true))∧w'=w:=by
 rcases h.2 with ⟨rfl,h0⟩ | ⟨g,cap,cur,rfl,hg,hh,hc,hm,hz,ht⟩
 ·have:bs=[]:=List.eq_nil_of_length_eq_zero h0
  subst this
  go_enter func137,ntmps137
  go_wp2
  go_loop [8] (fun i=>i=.int .i64 0) (fun _=>0)
  case atStart=>rfl
  case round =>
   subst hrel
   go_wp2
   go_ret
   exact⟨⟨-1,rfl,by simp[hasB]⟩,rfl⟩
 ·have hcell:∀j (hj:j<bs.length),w.cell? ⟨g,j,none⟩=some (.string bs[j]):=fun j hj=>by
   have:w.cell? ⟨g,j,none⟩=cur[j]?:=by unfold World.cell?;rw[hh];rfl
   rw[this,←Array.getElem?_toList]
   have h2:(cur.toList.take (bs.length*1))[j]?=(bs.map Value.string)[j]?:=by rw[ht]
   rw[List.getElem?_take,if_pos (by omega)] at h2
   rw[h2]
   simp[hj]
  clear ht hz hh h
  unfold maxLen at hm
  go_enter func137,ntmps137
  go_wp2
  go_loop [8] (fun i=>∃k:Nat,i=.int .i64 k∧k≤bs.length∧Hid (∀j (hj:j<k) (hl:j<bs.length),(v.toList==bs[j].toList)=false)) (fun i=>bs.length-(intOf i).toNat)
  case atStart=>exact⟨0,rfl,by omega,fun j hj _=>absurd hj (by omega)⟩
  case round =>
   obtain⟨k,rfl,hk,hall⟩:=hrel
   by_cases hlt:k<bs.length
   ·have hck:=hcell k hlt
    cases he:(v.toList==bs[k].toList)
    ·go_wp2
     go_round
     case rel =>
      refine⟨k+1,by go_num,by omega,fun j hj hl=>?_⟩
      by_cases e:j=k
      ·subst e;exact he
      ·exact hall.out j (by omega) hl
     case measure=>simp[intOf];omega
    ·go_wp2
     go_ret
     refine⟨⟨k,rfl,?_⟩,rfl⟩
     have:hasB bs v=true:=by
      simp only[hasB,List.any_eq_true]
      exact⟨bs[k],List.getElem_mem _,he⟩
     simp[this]
   ·go_wp2
    go_ret
    refine⟨⟨-1,rfl,?_⟩,rfl⟩
    have:hasB bs v=false:=by
     simp only[hasB,List.any_eq_false]
     intro b hb
     obtain⟨j,hj,rfl⟩:=List.getElem_of_mem hb
     have:=hall.out j (by omega) hj
     simp[this]
    simp[this]
theorem contains_any (sv:Value)(bs:List ByteArray)(v:ByteArray)(w:World)(D:Nat→Prop)(h:StrsAt w D sv bs)(hn:bs.length≤100000):
  Calls prog 103 #[sv,.string v] w fun e w'=>e=.returned (.bool (hasB bs v))∧w'=w:=by
 have ci:=fun w h=>index_any sv bs v w D h hn
 go_enter func103,ntmps103
 go_wp2_with (go_at_call 137;refine (ci _ h).mono ?_;rintro e w' ⟨⟨i,rfl,hi⟩,rfl⟩)
 go_ret
 exact⟨ret_bool (Bool.eq_iff_iff.2 (by simp)),rfl⟩
theorem wrongName_any (nb:ByteArray)(at_:Nat)(a:Addr)(w:World):
  Calls prog 102 #[nameV nb at_,errVal a] w fun e w'=>e=.returned (wrongV at_ a)∧Below w.heap.size w w':=by
 go_enter func102,ntmps102
 go_wp2
 go_ret
 exact⟨rfl,below1 w _⟩
def clipV:Value→Value
 | .slice ad n _=>.slice ad n (if ad.isSome then n else 0)
 | v=>v
theorem clip_some (g n cap:Nat)(w:World)(hc:n≤cap)(_hm:cap≤maxLen):
  Calls prog 174 #[.slice (some ⟨g,0,none⟩) n cap] w fun e w'=>e=.returned (.slice (some ⟨g,0,none⟩) n n)∧w'=w:=by
 unfold maxLen at _hm
 go_enter func174,ntmps174
 go_wp2
 go_ret
 exact⟨rfl,rfl⟩
theorem clip_none (w:World):
  Calls prog 174 #[.slice none 0 0] w fun e w'=>e=.returned (.slice none 0 0)∧w'=w:=by
 go_enter func174,ntmps174
 go_wp2
 go_ret
 exact⟨rfl,rfl⟩
theorem Tryz.infoString:(prog.info? 9).map (fun i=>(i.zero,i.size,i.bytes))=some (some (.string ⟨#[]⟩),1,16):=by kernel_rfl
theorem one_new2 (w:World)(o:Obj)(x:Value)(t:TypeId):∀j u,[x][j]?=some u→((w.alloc o).alloc (.cells #[x] t)).cell? ((⟨w.heap.size+1,0,none⟩:Addr).add j)=some u:=by
 have:=cell_one_new (w.alloc o) x t
 simpa using this
theorem within_any (sv:Value)(bs:List ByteArray)(nb:ByteArray)(at_:Nat)(w:World)(D:Nat→Prop)(h:StrsAt w D sv bs)(hn:bs.length≤100000):
  Calls prog 139 #[sv,nameV nb at_] w fun e w'=>∃v',e=.returned v'∧StrsAt w' (w.heap.size≤·) v' (bs++[nb])∧Below w.heap.size w w':=by
 obtain⟨n0,n1,n2⟩:=new_cells2 w (.string nb) (.int .i64 ((at_:Nat):Int)) 61
 have fin:∀(v':Value) (w6:World),w6.ownsRow (w.heap.size+2) 9 1 v' (bs.length+1) (bs.map Value.string++[.string nb])→((w.alloc (Obj.cells #[.string nb,.int .i64 ((at_:Nat):Int)] 61)).alloc (Obj.cells #[.string nb] 9)).drew.grownBy w6 none→StrsAt w6 (w.heap.size≤·) v' (bs++[nb])∧Below w.heap.size w w6:=by
  intro v' w6 hown hgrow
  refine⟨?_,?_⟩
  ·have:RowAt w6 (w.heap.size≤·) 9 1 v' (bs.length+1) (bs.map Value.string++[.string nb]):=RowAt.of_owns (owns_mono hown (by omega))
   unfold StrsAt
   rw[List.length_append,List.map_append]
   exact this
  ·exact Below.grown ((((Below.refl _ _).alloc (Nat.le_refl _) _).alloc (by simp) _).drew) hgrow (by simp;omega) (fun k hk=>by cases hk)
 rcases h.2 with ⟨rfl,h0⟩ | ⟨g,cap,cur,rfl,hg,hh,hc,hm,hz,ht⟩
 ·have:bs=[]:=List.eq_nil_of_length_eq_zero h0
  subst this
  have FN:Hid (∀(v':Value) (w6:World),w6.ownsRow (w.heap.size+2) 9 1 v' (0+1) ([]++[.string nb])→((w.alloc (Obj.cells #[.string nb,.int .i64 ((at_:Nat):Int)] 61)).alloc (Obj.cells #[.string nb] 9)).drew.grownBy w6 none→StrsAt w6 (w.heap.size≤·) v' ([]++[nb])∧Below w.heap.size w w6):=fin
  clear h h0 n1 n2 fin
  go_enter func139,ntmps139
  go_wp2
  go_region_held3 (fun w'=>w'.cell? ⟨w.heap.size,0,none⟩=some (.string nb)) (first | go_keep | (refine cell_grown hgrow ?_ (by simp);(first | assumption | (exact alloc_cell n0))))
   ((first
    |(go_at_call 174;refine (clip_none _).mono ?_;rintro e w' ⟨rfl,rfl⟩)
    |(obtain⟨i0,hi,hz0,hz1,hz2⟩:=info_parts Tryz.infoString;refine step_append_grows ?_ (.tmp 6) (.tmp 9) 26 ?_ 9 i0 (.string ⟨#[]⟩) 1 16 underlying26 hi hz0 hz1 hz2 rfl (by decide) none 0 0 [] ?_ ?_ rfl ?_ ⟨w.heap.size+1,0,none⟩ 1 1 [.string nb] ?_ rfl ?_ ?_ (by decide) ?_ (by decide) ?_;(rfl);(rfl);(rfl);(exact fun _=>⟨rfl,rfl⟩);(exact fun b hb=>by cases hb);(rfl);(exact one_new2 w _ _ _);(intro u hu;simp at hu;subst hu;rfl);(unfold maxLen;decide);clear hi hz0 hz1 hz2;intro v' w6 hown' hgrow)))
  all_goals go_wp2
  all_goals go_ret
  all_goals refine⟨v',rfl,FN.out v' w6 ?_ hgrow⟩
  all_goals simpa using hown'
 ·have hcell:∀j u,(bs.map Value.string)[j]?=some u→w.cell? ⟨g,j,none⟩=some u:=fun j u hj=>by
   have:w.cell? ⟨g,j,none⟩=cur[j]?:=by unfold World.cell?;rw[hh];rfl
   rw[this,←Array.getElem?_toList]
   have hl:j<bs.length:=by
    have:=(List.getElem?_eq_some_iff.1 hj).1
    simpa using this
   have h2:(cur.toList.take (bs.length*1))[j]?=(bs.map Value.string)[j]?:=by rw[ht]
   rw[List.getElem?_take,if_pos (by omega)] at h2
   rw[h2]
   exact hj
  have hlt:=block_lt hh
  have hcA:∀(b:Addr),some (⟨g,0,none⟩:Addr)=some b→∀j u,(bs.map Value.string)[j]?=some u→((w.alloc (Obj.cells #[.string nb,.int .i64 ((at_:Nat):Int)] 61)).alloc (Obj.cells #[.string nb] 9)).cell? (b.add j)=some u:=by
   intro b hb j u hj
   cases hb
   have:=alloc_cell (o:=Obj.cells #[.string nb] 9) (alloc_cell (o:=Obj.cells #[.string nb,.int .i64 ((at_:Nat):Int)] 61) (hcell j u hj))
   rw[show (⟨g,0,none⟩:Addr).add j=⟨g,j,none⟩ from by by_cases h:j=0<;>simp[Addr.add,h]]
   exact this
  have HC:Hid (∀(b:Addr),some (⟨g,0,none⟩:Addr)=some b→∀j u,(bs.map Value.string)[j]?=some u→((w.alloc (Obj.cells #[.string nb,.int .i64 ((at_:Nat):Int)] 61)).alloc (Obj.cells #[.string nb] 9)).cell? (b.add j)=some u):=hcA
  have FN:Hid (∀(v':Value) (w6:World),w6.ownsRow (w.heap.size+2) 9 1 v' (bs.length+1) (bs.map Value.string++[.string nb])→((w.alloc (Obj.cells #[.string nb,.int .i64 ((at_:Nat):Int)] 61)).alloc (Obj.cells #[.string nb] 9)).drew.grownBy w6 none→StrsAt w6 (w.heap.size≤·) v' (bs++[nb])∧Below w.heap.size w w6):=fin
  clear h n1 n2 fin hcA hcell hz ht hh
  go_enter func139,ntmps139
  go_wp2
  go_region_held3 (fun w'=>w'.cell? ⟨w.heap.size,0,none⟩=some (.string nb)) (first | go_keep | (refine cell_grown hgrow ?_ (by simp);(first | assumption | (exact alloc_cell n0))))
   ((first
    |(go_at_call 174;refine (clip_some g bs.length cap _ hc hm).mono ?_;rintro e w' ⟨rfl,rfl⟩)
    |(obtain⟨i0,hi,hz0,hz1,hz2⟩:=info_parts Tryz.infoString;refine step_append_grows ?_ (.tmp 6) (.tmp 9) 26 ?_ 9 i0 (.string ⟨#[]⟩) 1 16 underlying26 hi hz0 hz1 hz2 rfl (by decide) (some ⟨g,0,none⟩) bs.length bs.length (bs.map Value.string) ?_ ?_ ?_ ?_ ⟨w.heap.size+1,0,none⟩ 1 1 [.string nb] ?_ rfl ?_ ?_ ?_ ?_ ?_ ?_;(rfl);(rfl);(rfl);(exact fun h=>by cases h);(simp);(exact HC.out);(rfl);(exact one_new2 w _ _ _);(intro u hu;simp at hu;subst hu;rfl);(omega);(unfold maxLen;omega);(omega);clear hi hz0 hz1 hz2;intro v' w6 hown' hgrow)))
  all_goals go_wp2
  all_goals go_ret
  all_goals refine⟨v',rfl,FN.out v' w6 ?_ hgrow⟩
  all_goals simpa using hown'
end Go.Proofs.YtifhgjpglicjbaaGreatDoor
namespace Go.Proofs.YtifhgjpglicjbaaGreatDoor
open Go.Proofs.Tryz
open Go.RowKit Go.Maps
attribute [local go_sem ↓] Go.wp_at_zero Go.wp_at_succ
def MapIs (D:DataW Unit)(fs:List (List UInt8×Nat)):Prop :=
 ∀l:List UInt8,Maps.has D (.string l)=(lookF fs l).isSome∧D.atKey (.string l) (.lit (.int .i64 0))=.lit (.int .i64 (((lookF fs l).getD 0:Nat):Int))
theorem law:Keyed prog 9:=string_keyed underlying9
theorem zeroE (w:World):(zeroValue 3).run prog w=.ok (.int .i64 0) w:=by kernel_rfl
def AheadAt (w:World)(B:Nat)(fs:List (List UInt8×Nat)):Prop :=
 ∃(n:Nat) (D:DataW Unit),w.ownsMap prog 9 (plainElem prog 3) B n D∧n≤fs.length∧MapIs D fs
theorem AheadAt.below {w w':World}{B:Nat}{fs:List (List UInt8×Nat)}(h:AheadAt w B fs)(hb:Below w.heap.size w w'):AheadAt w' B fs:=by
 obtain⟨n,D,h1,h2,h3⟩:=h
 obtain⟨es,clock,g1,g2⟩:=h1
 exact⟨n,D,⟨es,clock,by rw[hb.block B (block_lt g1)];exact g1,g2⟩,h2,h3⟩
theorem AheadAt.alloc {w:World}{B:Nat}{fs:List (List UInt8×Nat)}(h:AheadAt w B fs)(o:Obj):AheadAt (w.alloc o) B fs:=h.below (below1 w o)
structure ErrsN (w:World)(aN aA aW:Addr):Prop where
 eN:w.cell? ⟨7,0,none⟩=some (errVal aN)
 eA:w.cell? ⟨8,0,none⟩=some (errVal aA)
 eW:w.cell? ⟨5,0,none⟩=some (errVal aW)
theorem ErrsN.below {w w':World}{aN aA aW:Addr}(h:ErrsN w aN aA aW)(hb:Below w.heap.size w w'):ErrsN w' aN aA aW:=⟨Below.cellv hb h.eN,Below.cellv hb h.eA,Below.cellv hb h.eW⟩
def errN (o:Option (Nat×Nat))(aN aA aW:Addr):Value :=
 match o with
 | none=>.nilIface
 | some (c,p)=>wrongV p (if c=4 then aN else if c=6 then aA else aW)
theorem check_any (B:Nat)(fs:List (List UInt8×Nat))(nb:ByteArray)(at_ c:Nat)(w:World)(aN aA aW:Addr)(hA:AheadAt w B fs)(hE:ErrsN w aN aA aW)(hnb:nb.size≤2000):
  Calls prog 140 #[.map (some B),nameV nb at_,.int .i64 ((c:Nat):Int)] w fun e w'=>e=.returned (errN (callErr fs nb.data.toList at_ c) aN aA aW)∧Below w.heap.size w w':=by
 obtain⟨n,D,hown,hn,hD⟩:=hA
 obtain⟨d1,d2⟩:=hD nb.data.toList
 have hkey:keyOf prog 9 (.string nb)=some (.string nb.data.toList):=WideMaps.keyOf_string_mk underlying9 (by unfold maxLen;omega)
 obtain⟨eN,eA,eW⟩:=hE
 have l1:=cell_lt eN
 have l2:=cell_lt eA
 cases hL:lookF fs nb.data.toList with
 | none =>
  rw[hL] at d1 d2
  have d1':Maps.has D (.string nb.data.toList)=false:=d1
  have e:callErr fs nb.data.toList at_ c=some (4,at_):=by simp[callErr,hL]
  rw[e]
  clear d1 hL e
  go_enter func140,ntmps140
  go_wp2_with (first
   |(at_lookup;refine wpList_lookup_own_ok_int _ rfl _ _ 179 rfl 9 3 .i64 law underlying179 underlying3 (zeroE _) B n D rfl (hown.alloc _) _ _ rfl hkey ?_;intro k hk _)
   |(go_at_call 102;refine (wrongName_any nb at_ aN _).mono ?_;rintro e w' ⟨rfl,hb⟩))
  go_ret
  exact⟨rfl,(below1 w _).trans (hb.mono (by simp))⟩
 | some k =>
  rw[hL] at d1 d2
  have d1':Maps.has D (.string nb.data.toList)=true:=d1
  have D2:Hid (D.atKey (.string nb.data.toList) (.lit (.int .i64 0))=.lit (.int .i64 ((k:Nat):Int))):=d2
  have e:callErr fs nb.data.toList at_ c=if k=c then none else some (6,at_):=by simp[callErr,hL]
  rw[e]
  clear d1 d2 hL e
  by_cases hkc:k=c
  ·subst hkc
   rw[if_pos rfl]
   go_enter func140,ntmps140
   go_wp2_with (at_lookup;refine wpList_lookup_own_ok_int _ rfl _ _ 179 rfl 9 3 .i64 law underlying179 underlying3 (zeroE _) B n D rfl (hown.alloc _) _ _ rfl hkey ?_;intro k' hk hwf;clear hwf;have hkk:k'=((k:Nat):Int):=(by rw[D2.out] at hk;simpa using hk.symm);subst hkk;clear hk)
   go_ret
   exact⟨rfl,below1 w _⟩
  ·rw[if_neg hkc]
   have hne:((k:Nat):Int)≠((c:Nat):Int):=by omega
   clear hkc
   generalize ((k:Nat):Int)=ki at D2 hne
   generalize ((c:Nat):Int)=ci at hne ⊢
   go_enter func140,ntmps140
   go_upto_region 4 with (at_lookup;refine wpList_lookup_own_ok_int _ rfl _ _ 179 rfl 9 3 .i64 law underlying179 underlying3 (zeroE _) B n D rfl (hown.alloc _) _ _ rfl hkey ?_;intro k' hk hwf;clear hwf;have hkk:k'=ki:=(by rw[D2.out] at hk;simpa using hk.symm);subst hkk;clear hk)
   have hkc2:(k'==ci)=false:=by simpa using hne
   clear hown hkey D2 hD d1' hne
   go_wp2_with (go_at_call 102;refine (wrongName_any nb at_ aA _).mono ?_;rintro e w' ⟨rfl,hb⟩)
   go_ret
   exact⟨rfl,(below1 w _).trans (hb.mono (by simp))⟩
end Go.Proofs.YtifhgjpglicjbaaGreatDoor
namespace Go.Proofs.YtifhgjpglicjbaaGreatDoor
open Go.Proofs.Tryz
open Go.RowKit
attribute [local go_sem ↓] Go.wp_at_zero Go.wp_at_succ
def namesOf (bs:List ByteArray):List (List UInt8):=bs.map fun b=>b.data.toList
theorem contains_names (bs:List ByteArray)(v:ByteArray):hasB bs v=(namesOf bs).contains v.data.toList:=by
 rw[Bool.eq_iff_iff,hasB_iff]
 simp[namesOf]
def ExprDo (k:Nat):Prop :=
 ∀(e:Ex) (v sv:Value) (bs:List ByteArray) (B:Nat) (fs:List (List UInt8×Nat)) (w:World) (D D2:Nat→Prop) (aN aA aW:Addr),szE e≤k→bs.length+szE e≤100000→RepE w D e v→StrsAt w D2 sv bs→AheadAt w B fs→ErrsN w aN aA aW →
  Calls prog 104 #[v,sv,.map (some B)] w fun r w'=>r=.returned (errN (nmE fs (namesOf bs) e) aN aA aW)∧Below w.heap.size w w'
theorem StrsAt.below {w w':World}{D:Nat→Prop}{sv:Value}{bs:List ByteArray}(h:StrsAt w D sv bs)(hb:Below w.heap.size w w'):StrsAt w' D sv bs:=row_below h hb
theorem RepE.below {w w':World}{D:Nat→Prop}{e:Ex}{v:Value}(h:RepE w D e v)(hb:Below w.heap.size w w'):RepE w' D e v:=h.map fun _ _ _ hr=>row_below hr hb
theorem RepEs.below {w w':World}{D:Nat→Prop}{e:List Ex}{v:List Value}(h:RepEs w D e v)(hb:Below w.heap.size w w'):RepEs w' D e v:=h.map fun _ _ _ hr=>row_below hr hb
theorem RepEs.at {w:World}{D:Nat→Prop}:∀{es:List Ex} {vs:List Value},RepEs w D es vs→∀j (hj:j<vs.length) (hj2:j<es.length),RepE w D es[j] vs[j]
 | [],vs,h,j,hj,hj2=>by simp at hj2
 | e::es,vs,h,j,hj,hj2=>by
  rw[RepEs] at h
  obtain⟨v,r,rfl,h2,h3⟩:=h
  cases j with
  | zero=>exact h2
  | succ j=>exact RepEs.at h3 j (by simpa using hj) (by simpa using hj2)
theorem checkExprs_of {k:Nat}(IH:ExprDo k)(es:List Ex)(pv sv:Value)(vs:List Value)(bs:List ByteArray)(B:Nat)(fs:List (List UInt8×Nat))(w:World)(D D2 D3:Nat→Prop)(aN aA aW:Addr)(hsz:szEs es≤k+1)(hb:bs.length+szEs es≤100000)
  (hR:RowAt w D3 64 1 pv vs.length vs) (hE:RepEs w D es vs) (hS:StrsAt w D2 sv bs) (hA:AheadAt w B fs) (hN:ErrsN w aN aA aW) :
  Calls prog 141 #[pv,sv,.map (some B)] w fun r w'=>r=.returned (errN (nmEs fs (namesOf bs) es) aN aA aW)∧Below w.heap.size w w':=by
 have hlen:=hE.length
 rcases Nat.eq_zero_or_pos vs.length with h0 | hpos
 ·have hv:vs=[]:=List.eq_nil_of_length_eq_zero h0
  have he:es=[]:=List.eq_nil_of_length_eq_zero (by omega)
  subst hv he
  obtain⟨ad,n,cap,rfl⟩:=row_slice hR
  have hn:n=0:=by
   rcases hR.2 with ⟨h,_⟩ | ⟨g,c,_,h,_⟩<;>(cases h;rfl)
  subst hn
  rw[nmEs]
  go_enter func141,ntmps141
  go_wp2
  go_loop [12] (fun i=>i=.int .i64 0) (fun _=>0)
  case atStart=>rfl
  case round =>
   subst hrel
   go_wp2
   go_ret
   exact⟨rfl,Below.refl _ _⟩
 ·obtain⟨g,cap,rfl,hg,hc1,hc2,hcell⟩:=hR.cell hpos
  unfold maxLen at hc2
  have hlt:g<w.heap.size:=by
   have:w.cell? ⟨g,0,none⟩=vs[0]?:=hcell 0 (by omega)
   rw[List.getElem?_eq_getElem hpos] at this
   exact cell_lt this
  have HL:Hid (vs.length=es.length):=hlen
  clear hlen
  have hvl:(vs.length:Int)≤100000:=by
   have h1:=szEs_len es
   have h2:vs.length=es.length:=HL.out
   omega
  go_enter func141,ntmps141
  go_wp2
  go_loopg [12] vs.length (fun m i wr=>∃j:Nat,m=vs.length-j∧i=.int .i64 j∧j≤vs.length∧Below w.heap.size w wr∧nmEs fs (namesOf bs) es=nmEs fs (namesOf bs) (es.drop j))
  case atStart=>exact⟨0,by omega,rfl,by omega,Below.refl _ _,rfl⟩
  case round =>
   obtain⟨j,rfl,rfl,hj,hbw,heq⟩:=hrel
   have HQ:Aside (nmEs fs (namesOf bs) es=nmEs fs (namesOf bs) (es.drop j)):=heq
   clear heq
   by_cases hjl:j<vs.length
   ·have hje:j<es.length:=by have h2:vs.length=es.length:=HL.out;omega
    have cj:w.cell? ⟨g,j,none⟩=some vs[j]:=by rw[hcell j (by omega)];exact List.getElem?_eq_getElem hjl
    obtain⟨tj,xj,hv⟩:=(hE.at j hjl hje).iface
    have cw:wr.cell? ⟨g,j,none⟩=some (.iface tj xj):=by rw[←hv];exact Below.cellv hbw cj
    have hs1:=szEs_at es j hje
    have ce:=IH es[j] vs[j] sv bs B fs wr D D2 aN aA aW (by omega) (by omega) ((hE.at j hjl hje).below hbw) (hS.below hbw) (hA.below hbw) (hN.below hbw)
    rw[hv] at ce
    have hnd:=nmEs_drop fs (namesOf bs) es j hje
    have HQ2:Aside (nmEs fs (namesOf bs) es=orE (nmE fs (namesOf bs) es[j]) (nmEs fs (namesOf bs) (es.drop (j+1)))):=by
     show _=_
     rw[HQ.out,hnd]
    have hbz:=hbw.size
    clear HQ hnd hcell hE hS hA hN cj IH hR
    cases hm:nmE fs (namesOf bs) es[j] with
    | some x =>
     rw[hm] at ce
     obtain⟨c,p⟩:=x
     obtain⟨a,ha⟩:∃a,errN (some (c,p)) aN aA aW=wrongV p a:=⟨_,rfl⟩
     rw[ha] at ce
     have HP:Hid (errN (nmEs fs (namesOf bs) es) aN aA aW=wrongV p a):=by show _=_;rw[HQ2.out,hm];exact ha
     clear HQ2 hm ha
     go_wp2_with (go_at_call 104;refine ce.mono ?_;rintro e w2 ⟨rfl,hb2⟩)
     go_ret
     exact⟨by rw[HP.out];rfl,hbw.trans (hb2.mono hbz)⟩
    | none =>
     rw[hm] at ce
     have HP:Aside (nmEs fs (namesOf bs) es=nmEs fs (namesOf bs) (es.drop (j+1))):=by show _=_;rw[HQ2.out,hm];rfl
     clear HQ2 hm
     go_wp2_with (go_at_call 104;refine ce.mono ?_;rintro e w2 ⟨rfl,hb2⟩;simp only[errN])
     go_roundg (vs.length-(j+1))
     case measure=>omega
     case rel=>exact⟨j+1,rfl,by go_num,by omega,hbw.trans (hb2.mono hbz),HP.out⟩
   ·have hP:Hid (nmEs fs (namesOf bs) es=none):=by
     show _=_
     rw[HQ.out,List.drop_eq_nil_of_le (by have:=HL.out;omega),nmEs]
    go_wp2
    go_ret
    exact⟨by rw[hP.out];rfl,hbw⟩
end Go.Proofs.YtifhgjpglicjbaaGreatDoor
