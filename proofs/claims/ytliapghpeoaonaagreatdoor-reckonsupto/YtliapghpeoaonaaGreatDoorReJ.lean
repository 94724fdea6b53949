/-
  The program: a function called: Find, the names of its parameters.
-/
import Derived.Test.YtliapghpeoaonaaGreatDoorReG
set_option maxHeartbeats 4000000
set_option maxRecDepth 8000
namespace Go.Proofs.YtliapghpeoaonaaGreatDoor
open Go.Proofs.Tryz
open Go.RowKit Go.Lib
attribute [local go_sem ↓] Go.wp_at_zero Go.wp_at_succ
def findF (fns:List Fn)(n:List UInt8)(k:Nat):Option Fn:=fns.find? fun f=>f.name==n&&f.params.length==k
theorem Zxf.findF {fns:List Fn}{n:List UInt8}{k:Nat}(h:Zxf fns n k):∃f,findF fns n k=some f∧fns.find? (fun f=>f.name==n)=some f:=by
 obtain⟨f,h1,h2⟩:=h
 refine⟨f,?_,h1⟩
 unfold Proofs.YtliapghpeoaonaaGreatDoor.findF
 rw[List.find?_eq_some_iff_getElem] at h1 ⊢
 obtain⟨a,i,hi,b,c⟩:=h1
 refine⟨by simp[a,h2],i,hi,b,fun j hj=>?_⟩
 have:=c j hj
 simp only[Bool.not_eq_true'] at this ⊢
 simp[this]
theorem Zwe {w:World}{D:Nat→Prop}(wd:ByteArray)(k:Nat):∀{xs:List FnV} {fns:List Fn},Zbu w D xs fns→Zcm wd k (Zcr xs (fns.map (·.params.length)))=fns.findIdx? (fun f=>f.name==wd.data.toList&&f.params.length==k)
 | [],fns,h=>by rw[show fns=[] from h];rfl
 | x::xs,fns,h=>by
  obtain⟨fn,r,rfl,h2,h3⟩:=h
  have e:Zjo wd k x.nb fn.params.length=(fn.name==wd.data.toList&&fn.params.length==k):=by
   unfold Zjo
   rw[ByteArray.toList_eq,ByteArray.toList_eq,h2.1]
  have ih:=Zwe wd k h3
  unfold Zcm Zcr at ih ⊢
  simp only[List.map_cons,List.zip_cons_cons,List.findIdx?_cons,e]
  rw[ih]
theorem Z2l {fns:List Fn}{n:List UInt8}{k:Nat}:findF fns n k=(fns.findIdx? (fun f=>f.name==n&&f.params.length==k)).bind fun j=>fns[j]?:=by
 unfold findF
 cases h:fns.findIdx? (fun f=>f.name==n&&f.params.length==k) with
 | none =>
  rw[List.findIdx?_eq_none_iff] at h
  rw[Option.bind_none,List.find?_eq_none]
  intro x hx
  rw[h x hx]
  decide
 | some j =>
  rw[List.findIdx?_eq_some_iff_getElem] at h
  obtain⟨h1,h2,h3⟩:=h
  rw[Option.bind_some,List.getElem?_eq_getElem h1,List.find?_eq_some_iff_getElem]
  exact⟨h2,j,h1,rfl,fun i hi=>by have:=h3 i hi;rw[Bool.not_eq_true] at this;rw[this];rfl⟩
def fdPost (mb:Nat)(fns:List Fn)(o:Option Fn)(w:World)(e:Ending)(w':World):Prop :=
 Below w.heap.size w w'∧((∃(f:Fn) (nb:ByteArray) (a:Nat) (ad:Option Addr) (cap:Nat) (bs:List (ByteArray×Nat)) (tb:TypeId) (yb:Value),o=some f∧f∈fns∧e=.returned (.tuple #[.agg #[.string nb,.int .i64 ((a:Nat):Int),.slice ad bs.length cap,.iface tb yb],.bool true])∧Zas bs=f.params∧Zao w' (·<mb) 138 2 (.slice ad bs.length cap) bs.length (Zb2 bs)∧Zc8 w' (·<mb) f.body (.iface tb yb)) ∨
  (o=none∧e=.returned (.tuple #[.agg #[.string ⟨#[]⟩,.int .i64 0,.slice none 0 0,.nilIface],.bool false])))
theorem Zti {mb:Nat}{fns:List Fn}{sl:Value}{w:World}(h:Zfs w (·<mb) sl fns)(wd:ByteArray)(k:Nat)(hk:k≤9223372036854775807):
  Calls prog 60 #[.agg #[sl],.string wd,.int .i64 ((k:Nat):Int)] w (fdPost mb fns (findF fns wd.data.toList k) w):=by
 obtain⟨xs,hrow,hrep,hl,hsm⟩:=h
 have hlen:=hrep.length
 have hbv:∀x∈xs,∃t y,x.bv=Value.iface t y:=fun x hx=>by
  obtain⟨j,hj,rfl⟩:=List.getElem_of_mem hx
  exact (hrep.at j hj (by omega)).2.2.2.iface
 refine (Z2j sl xs _ wd k w _ hbv hrow (hrep.lens hsm) hl hk).mono fun e w' ⟨h1,hb⟩=>⟨hb,?_⟩
 rw[Zwe wd k hrep] at h1
 rw[Z2l]
 cases hI:fns.findIdx? (fun f=>f.name==wd.data.toList&&f.params.length==k) with
 | none=>rw[hI] at h1;exact Or.inr ⟨rfl,h1⟩
 | some j =>
  rw[hI] at h1
  have hj:=(List.findIdx?_eq_some_iff_getElem.1 hI).1
  have hjx:j<xs.length:=by omega
  have hr:=hrep.at j hjx hj
  obtain⟨_,_,⟨bs,hbs,hpr⟩,hbd⟩:=hr
  obtain⟨ad,cap,hpv⟩:=(Zar.of_row hpr).slice
  obtain⟨tb,yb,hby⟩:=hbd.iface
  rw[hpv] at hpr
  rw[hby] at hbd
  simp only[Zy6,List.getElem?_eq_getElem hjx] at h1
  refine Or.inl ⟨fns[j],xs[j].nb,xs[j].at_,ad,cap,bs,tb,yb,by rw[Option.bind_some,List.getElem?_eq_getElem hj],List.getElem_mem hj,?_,hbs,Zai hpr hb,(hbd.keep fun q _ hlt=>hb.block q hlt).weaken fun q hq=>hq.1⟩
  rw[h1]
  unfold fnV
  rw[hpv,hby]
def Zy8 (E:Nat→Env→Ex→Option (PV×Nat))(fns:List Fn)(k:Nat)(n:List UInt8)(vs:List PV):Option (PV×Nat) :=
 match findF fns n vs.length with
 | none=>none
 | some f=>E k (Zdp f vs) f.body
theorem Zvw {E:Nat→Env→Ex→Option (PV×Nat)}{fns:List Fn}{k:Nat}{n:List UInt8}{vs:List PV}(h:Zxf fns n vs.length):Zy8 E fns k n vs=evC E fns k n vs:=by
 obtain⟨f,h1,h2⟩:=h.findF
 unfold Zy8 evC
 rw[h1,h2]
def parE (bs:List (ByteArray×Nat))(vs:List PV)(j:Nat):Env:=(((bs.map (·.1.data.toList)).zip vs).take j).reverse
theorem parE_all {bs:List (ByteArray×Nat)}{f:Fn}{vs:List PV}(h:Zas bs=f.params)(hl:bs.length=vs.length):parE bs vs bs.length=Zdp f vs:=by
 unfold parE Zdp
 rw[←h,List.take_of_length_le (by simp;omega)]
 unfold Zas
 simp[List.map_map,Function.comp_def]
theorem Z02 {bs:List (ByteArray×Nat)}{vs:List PV}{j:Nat}(hj:j<bs.length)(hj2:j<vs.length):parE bs vs (j+1)=(bs[j].1.data.toList,vs[j])::parE bs vs j:=by
 unfold parE
 rw[List.take_add_one,List.getElem?_eq_getElem (by simp;omega)]
 simp
theorem Zvt {fns:List Fn}{n:List UInt8}{k:Nat}{f:Fn}(h:findF fns n k=some f):f.params.length=k∧f∈fns:=by
 have h1:=List.find?_some h
 have h2:=List.mem_of_find?_eq_some h
 simp at h1
 exact⟨h1.2,h2⟩
theorem SC.ptr {w:World}{D:Nat→Prop}{s:Env}{y:Value}(h:SC w D s y):∃o,y=.pointer o:=by
 cases s with
 | nil=>rw[SC] at h;exact⟨_,h⟩
 | cons a r=>rw[SC] at h;obtain⟨b,_,_,_,h,_⟩:=h;exact⟨_,h⟩
theorem rk_from {D:Nat→Prop}{mb:Nat}{fns:List Fn}{o:Option (PV×Nat)}{w w1 w':World}{e:Ending}(ht:Zaa (·=mb) w w1)(h:Zez D mb fns o w1 e w'):Zez D mb fns o w e w':=⟨ht.trans h.1,h.2⟩
theorem Zv0 {mb k0:Nat}{fns:List Fn}{E:Nat→Env→Ex→Option (PV×Nat)}(hP:Ze1 fns)(IH:RDo mb fns E k0)(w:World)(D:Nat→Prop)(k:Nat)(nm:ByteArray)(vs:List PV)(cs:List Value)(sl:Value)(hk:k≤k0)(hD:¬ D mb)(hD2:∀g,w.heap.size≤g→D g)(hM:Zfw w mb fns k)
  (hseg:Zar w D 81 1 sl vs.length cs) (hvs:VLs w D vs cs) (hf:∀v∈vs,Zec v) (hl:vs.length≤100000000) :
  Calls prog 105 #[.pointer (some ⟨mb,0,none⟩),.string nm,sl] w (Zez D mb fns (Zy8 E fns k nm.data.toList vs) w):=by
 obtain⟨ad,n,cap,st,hst,c0,c1,cf,lr,hprog,_⟩:=hM.facts
 obtain⟨sad,scap,rfl⟩:=hseg.slice
 have CF:Hid (∀X,Below w.heap.size w X→Calls prog 60 #[.agg #[.slice ad n cap],.string nm,.int .i64 ((vs.length:Nat):Int)] X _):=fun X hX=>Zti (hprog.below hX) nm vs.length (by omega)
 go_enter func105,ntmps105
 go_wp2_with fail
 refine (CF.out w (Below.refl _ _)).mono ?_
 rintro e w1 ⟨hb1,⟨f,nb,a,pad,pcap,bs,tb,yb,ho,hfm,rfl,hbs,hprow,hbody⟩ | ⟨ho,rfl⟩⟩
 ·obtain⟨har,_⟩:=Zvt ho
  have hbl:bs.length=vs.length:=by rw[←har,←hbs];simp[Zas]
  have HE:Aside (Zy8 E fns k nm.data.toList vs=E k (Zdp f vs) f.body):=by show _=_;unfold Zy8;rw[ho]
  have hxp:XPo fns (Zdp f vs) f.body:=⟨Zgj.par hf,hP.lit f hfm,hP.wf f hfm,by have:=hP.sz f hfm;omega,_,hP.sc f hfm⟩
  have HBL:Aside (bs.length=vs.length):=hbl
  have HBS:Aside (Zas bs=f.params):=hbs
  have hvl:bs.length≤100000000:=by omega
  have hvi:((vs.length:Nat):Int)=((bs.length:Nat):Int):=by omega
  have bX:Below w.heap.size w (w1.alloc (Obj.cells #[.string nb,.int .i64 ((a:Nat):Int),.slice pad bs.length pcap,.iface tb yb] 143)):=hb1.alloc hb1.size _
  have hXf:(w1.alloc (Obj.cells #[.string nb,.int .i64 ((a:Nat):Int),.slice pad bs.length pcap,.iface tb yb] 143)).heap[w1.heap.size]?=some (.cells #[.string nb,.int .i64 ((a:Nat):Int),.slice pad bs.length pcap,.iface tb yb] 143):=heap_alloc_new _ _
  have hXz:(w1.alloc (Obj.cells #[.string nb,.int .i64 ((a:Nat):Int),.slice pad bs.length pcap,.iface tb yb] 143)).heap.size=w1.heap.size+1:=by simp
  have sz1:=hb1.size
  have MX:Hid (∀Y,Below w.heap.size w Y→Zfw Y mb fns k):=fun Y hY=>hM.below hY
  have hprowX:∀Y,Below (w1.heap.size+1) (w1.alloc (Obj.cells #[.string nb,.int .i64 ((a:Nat):Int),.slice pad bs.length pcap,.iface tb yb] 143)) Y→Zao Y (·<mb) 138 2 (.slice pad bs.length pcap) bs.length (Zb2 bs)∧Zc8 Y (·<mb) f.body (.iface tb yb)∧Below w.heap.size w Y:=fun Y hY=>by
   have hw1:Below w1.heap.size w1 Y:=(Zab w1 _).trans (hY.mono (by omega))
   exact⟨Zai hprow hw1,(hbody.keep fun q _ hlt=>hw1.block q hlt).weaken fun q hq=>hq.1,hb1.trans (hw1.mono sz1)⟩
  clear CF hprog hM c0 c1 cf hbl har hbs hbody hprow
  go_wp2_with fail
  go_loopg [10,30] bs.length (fun gh nv iv wr=>∃j:Nat,gh=bs.length-j∧iv=.int .i64 ((j:Nat):Int)∧j≤bs.length∧SC wr D (parE bs vs j) nv∧Below (w1.heap.size+1) (w1.alloc (Obj.cells #[.string nb,.int .i64 ((a:Nat):Int),.slice pad bs.length pcap,.iface tb yb] 143)) wr)
  case atStart=>exact⟨0,by omega,rfl,by omega,by simp[parE,SC],Below.refl _ _⟩
  case round =>
   obtain⟨j,rfl,rfl,hj,hsc,hbr⟩:=hrel
   obtain⟨hrow,hbd,hbw⟩:=hprowX wr hbr
   obtain⟨no,rfl⟩:=hsc.ptr
   have fbl:wr.heap[w1.heap.size]?=some (.cells #[.string nb,.int .i64 ((a:Nat):Int),.slice pad bs.length pcap,.iface tb yb] 143):=by rw[hbr.block _ (by omega)];exact hXf
   by_cases hjl:j<bs.length
   ·have hjv:j<vs.length:=by have:=HBL.out;omega
    obtain⟨n0,n1⟩:=Zho bs j hjl
    obtain⟨g,cp,cur,hgv,hgD,hh,hc1,hc2,hcs,htk⟩:∃g cap cur,Value.slice pad bs.length pcap=.slice (some ⟨g,0,none⟩) bs.length cap∧(g<mb)∧wr.heap[g]?=some (.cells cur 138)∧bs.length≤cap∧cap≤maxLen∧cur.size=cap*2∧cur.toList.take (bs.length*2)=Zb2 bs:=by
     rcases hrow.2 with ⟨_,h0⟩ | h
     ·omega
     ·exact h
    cases hgv
    have p0:wr.cell? ⟨g,j*2,none⟩=some (.string bs[j].1):=by
     rw[←htk,List.getElem?_take,if_pos (by omega)] at n0
     unfold World.cell?;rw[hh];simpa using n0
    have p1:wr.cell? ⟨g,j*2+1,none⟩=some (.int .i64 ((bs[j].2:Nat):Int)):=by
     rw[←htk,List.getElem?_take,if_pos (by omega)] at n1
     unfold World.cell?;rw[hh];simpa using n1
    obtain⟨x,hx,hvx⟩:=hvs.at j hjv
    obtain⟨tx,yx,rfl⟩:=hvx.iface
    obtain⟨ga,oa,cpa,hcapa,_,ha1,ha2,hcella⟩:=hseg.cell (by omega)
    cases hcapa
    have q0:wr.cell? ⟨ga,oa+j,none⟩=some (.iface tx yx):=Below.cellv hbw (by rw[hcella j (by omega)];exact hx)
    have hga:ga<wr.heap.size:=Zae q0
    have hgg:g<wr.heap.size:=Zae p0
    have nga:wr.heap.size≠ga:=by omega
    have hpj:=Z02 hjl hjv
    have STEP:Hid (∀X Y b,Below wr.heap.size wr X→Below X.heap.size X Y→X.heap.size≤b→Y.heap[b]?=some (.cells #[.string bs[j].1,.iface tx yx,.pointer no] 382)→SC Y D (parE bs vs (j+1)) (.pointer (some ⟨b,0,none⟩))∧Below (w1.heap.size+1) (w1.alloc (Obj.cells #[.string nb,.int .i64 ((a:Nat):Int),.slice (some ⟨g,0,none⟩) bs.length pcap,.iface tb yb] 143)) Y):=fun X Y b hX hY hb hyb=>by
     rw[hpj]
     have hwY:Below wr.heap.size wr Y:=hX.trans (hY.mono hX.size)
     refine⟨SC.cons (_w:=Y) (hsc.below hwY) rfl ((hvx.below hbw).below hwY) (hD2 b (by have:=hbw.size;have:=hX.size;omega)) hyb,hbr.trans (hwY.mono (by have:=hbr.size;omega))⟩
    have hji:(j:Int)<((bs.length:Nat):Int):=by omega
    unfold maxLen at hc2 ha2
    clear hpj hsc hvx hrow hbd hh htk n0 n1 hcella hx fbl
    generalize bs[j].1=nj at *
    generalize bs[j].2=aj at *
    have CW:Hid (∀X,Calls prog 151 #[.pointer no,.string nj,.iface tx yx] X _):=fun X=>Zpn (.pointer no) (.iface tx yx) nj X ⟨_,rfl⟩ ⟨_,_,rfl⟩
    go_wp2_with fail
    have hjv2:(j:Int)<((vs.length:Nat):Int):=by omega
    have B8:Below wr.heap.size wr (wr.alloc (Obj.cells #[.string nj,.int .i64 ((aj:Nat):Int)] 138)):=Zab wr _
    have e0:(wr.alloc (Obj.cells #[.string nj,.int .i64 ((aj:Nat):Int)] 138)).cell? ⟨wr.heap.size,0,none⟩=some (.string nj):=by simp
    have e1:(wr.alloc (Obj.cells #[.string nj,.int .i64 ((aj:Nat):Int)] 138)).cell? ⟨ga,oa+j,none⟩=some (.iface tx yx):=Zac q0
    generalize wr.alloc (Obj.cells #[.string nj,.int .i64 ((aj:Nat):Int)] 138)=X8 at *
    go_region_with (go_at_call 151;refine (CW.out _).mono ?_;rintro e w5 ⟨hb5,b5,hb5a,rfl,hb5c⟩)
    all_goals (go_wp2_with fail)
    all_goals (go_roundg (bs.length-(j+1)))
    all_goals first | omega | skip
    all_goals
     obtain⟨hs6,hb6⟩:=STEP.out _ _ _ B8.drew hb5 hb5a hb5c
     exact⟨j+1,rfl,by go_num,by omega,hs6,hb6⟩
   ·have hjj:j=bs.length:=by omega
    have hji:¬ (j:Int)<((bs.length:Nat):Int):=by omega
    have f3:wr.cell? ⟨w1.heap.size,3,none⟩=some (.iface tb yb):=by unfold World.cell?;rw[fbl];rfl
    rw[hjj,parE_all HBS.out HBL.out] at hsc
    have CE:=IH wr D k f.body _ (Zdp f vs) _ hk hD (fun q hq=>hD2 q (by have:=hbw.size;omega)) (MX.out _ hbw) hbd hsc hxp
    rw[←HE.out] at CE
    generalize Zy8 E fns k nm.data.toList vs=R at *
    have TW:Zaa (·=mb) w wr:=Zaa.of_below hbw
    clear hsc hbd hrow hseg hvs IH MX hprowX HE HBL HBS
    subst hjj
    go_wp2_with (go_at_call 152;refine CE.mono ?_;rintro e w7 hr7;obtain⟨u7,f7,rfl⟩:=Zps hr7)
    go_ret2
    exact rk_from TW hr7
 ·have FIN:Hid (∀X u b,Below w.heap.size w X→Zez D mb fns (Zy8 E fns k nm.data.toList vs) w (.returned (.tuple #[u,Zm2 b])) X):=fun X u b hX=>rk_no (by unfold Zy8;rw[ho]) (Zaa.of_below hX) (Zb9 b)
  clear CF hseg hvs hM hprog
  go_wp2_with fail
  go_ret2
  exact FIN.out _ _ _ (hb1.alloc hb1.size _)
end Go.Proofs.YtliapghpeoaonaaGreatDoor
namespace Go.Proofs.YtliapghpeoaonaaGreatDoor
open Go.Proofs.Tryz
open Go.RowKit Go.Lib
attribute [local go_sem ↓] Go.wp_at_zero Go.wp_at_succ
attribute [local go_sem] Zdi Zdh Zdj Zdf Zde Zdg Zdl Zdk Zdm
theorem Below.undrew {B:Nat}{a w:World}(h:Below B a.drew w):Below B a w:=⟨h.os,h.tape,h.output,h.size,h.block⟩
section
variable {mb k0:Nat} {fns:List Fn} {E:Nat→Env→Ex→Option (PV×Nat)}
theorem RDo.use (IH:RDo mb fns E k0)(good:Zg2 E)(X:World)(D:Nat→Prop)(k:Nat)(e:Ex)(x:Value)(s:Env)(y:Value)(hk:k≤k0)(hD:¬ D mb)(hD2:∀g,X.heap.size≤g→D g)(hM:Zfw X mb fns k)(hr:Zc8 X (·<mb) e x)(hs:SC X D s y)(hx:XPo fns s e):
  Calls prog 152 #[.pointer (some ⟨mb,0,none⟩),x,y] X fun r w'=>Zaa (·=mb) X w'∧((∃v z k',E k s e=some (v,k')∧r=.returned (.tuple #[z,.nilIface])∧VL w' D v z∧Zfw w' mb fns k'∧k'≤k∧Zec v)∨(E k s e=none∧∃u f,Zii f∧r=.returned (.tuple #[u,f]))) :=
 (IH X D k e x s y hk hD hD2 hM hr hs hx).mono fun r w' ⟨a,b⟩=>⟨a,by
  rcases b with ⟨v,z,k',h1,h2,h3,h4⟩ | h
  ·have g:=good k s e v k' hx.fine hx.lit h1
   exact Or.inl ⟨v,z,k',h1,h2,h3,h4,g.2,g.1⟩
  ·exact Or.inr h⟩
theorem Z29 (IH:RDo mb fns E k0)(good:Zg2 E)(w:World)(D:Nat→Prop)(k:Nat)(c t f:Ex)(sp:Int)(xc xt xf:Value)(s:Env)(y:Value)(hk:k≤k0)(hD:¬ D mb)(hD2:∀g,w.heap.size≤g→D g)(hM:Zfw w mb fns k)
  (hc:Zc8 w (·<mb) c xc) (ht:Zc8 w (·<mb) t xt) (hf:Zc8 w (·<mb) f xf) (hs:SC w D s y) (pc:XPo fns s c) (pt:XPo fns s t) (pf:XPo fns s f) :
  Calls prog 231 #[.pointer (some ⟨mb,0,none⟩),.agg #[.int .i64 sp,xc,xt,xf],y] w (Zbl D mb fns (Zrw (fun k e=>E k s e) k [c,t,f]) w):=by
 obtain⟨R,hR⟩:∃R,R=Zrw (fun k e=>E k s e) k [c,t,f]:=⟨_,rfl⟩
 rw[←hR]
 obtain⟨o,rfl⟩:=hs.ptr
 obtain⟨t0,y0,rfl⟩:=hc.iface
 obtain⟨t1,y1,rfl⟩:=ht.iface
 obtain⟨t2,y2,rfl⟩:=hf.iface
 have hmb:=hM.lt
 have bX:=Zab w (Obj.cells #[.int .i64 sp,.iface t0 y0,.iface t1 y1,.iface t2 y2] 422)
 have hXb:(w.alloc (Obj.cells #[.int .i64 sp,.iface t0 y0,.iface t1 y1,.iface t2 y2] 422)).heap[w.heap.size]?=some (.cells #[.int .i64 sp,.iface t0 y0,.iface t1 y1,.iface t2 y2] 422):=heap_alloc_new _ _
 have CE:=IH.use good _ D k c _ s _ hk hD (fun g hg=>hD2 g (by simp at hg;omega)) (hM.below bX) (hc.below bX) (hs.below bX) pc
 have NX:Hid (∀(X:World) (k1:Nat) (e:Ex) (x:Value),Zaa (·=mb) (w.alloc (Obj.cells #[.int .i64 sp,.iface t0 y0,.iface t1 y1,.iface t2 y2] 422)) X→Zfw X mb fns k1→k1≤k→Zc8 w (·<mb) e x→XPo fns s e→Calls prog 152 #[.pointer (some ⟨mb,0,none⟩),x,.pointer o] X (Zez D mb fns (E k1 s e) X)):=fun X k1 e x hX hMX hk1 he hp=>IH X D k1 e x s _ (by omega) hD (fun g hg=>hD2 g (by have:=hX.size;simp at this;omega)) hMX ((he.below bX).touch hX) ((hs.below bX).touch hX fun q hq e=>hD (by have e:q=mb:=e;rw[←e];exact hq)) hp
 have GD:Hid (∀k1 e,XPo fns s e→∀v k',E k1 s e=some (v,k')→wtV v≤600):=fun k1 e hp v k' h=>(good k1 s e v k' hp.fine hp.lit h).1.2
 have TB:Hid (∀X,Zaa (·=mb) (w.alloc (Obj.cells #[.int .i64 sp,.iface t0 y0,.iface t1 y1,.iface t2 y2] 422)) X→Zaa (·=mb) w X):=fun X hX=>(Zaa.of_below bX).trans hX
 have BX:Hid (∀X,Zaa (·=mb) (w.alloc (Obj.cells #[.int .i64 sp,.iface t0 y0,.iface t1 y1,.iface t2 y2] 422)) X→X.cell? ⟨w.heap.size,2,none⟩=some (.iface t1 y1)∧X.cell? ⟨w.heap.size,3,none⟩=some (.iface t2 y2)):=fun X hX=>by
  refine⟨hX.cell ?_ (by show ¬ w.heap.size=mb;omega),hX.cell ?_ (by show ¬ w.heap.size=mb;omega)⟩
  ·unfold World.cell?;rw[hXb];rfl
  ·unfold World.cell?;rw[hXb];rfl
 have EV0:Hid (E k s c=none→R=none):=fun h=>by simp only[hR,Zrw,h]
 have EV1:Hid (∀v k',E k s c=some (v,k')→R=match v with | .num z=>if z=0 then E k' s f else E k' s t | _=>none):=fun v k' h=>by
  simp only[hR,Zrw,h]
  cases v<;>rfl
 clear hXb bX hM hR
 go_enter func231,ntmps231
 go_wp2_with fail
 refine CE.mono ?_
 rintro e w1 ⟨ht1,⟨v,z,k',ho,rfl,hv,hM1,hk1,hfv⟩ | ⟨ho,u,fl,hfl,rfl⟩⟩
 ·obtain⟨b2,b3⟩:=BX.out _ ht1
  have TW:=TB.out _ ht1
  have HE:=EV1.out _ _ ho
  rcases Zcn hv with ⟨z,rfl,rfl⟩ | ⟨sx,rfl,rfl⟩ | ⟨l,ad,cap,cs,rfl,rfl,_,_⟩
  ·simp only at HE
   by_cases hz:z=0
   ·rw[if_pos hz] at HE
    have C2:=NX.out _ k' f _ ht1 hM1 hk1 hf pf
    have G2:=GD.out k' f pf
    rw[←HE] at C2 G2
    subst hz
    clear HE EV0 EV1 NX CE hM1 hv hs hc ht hf GD BX TB ho
    go_wp2_with (go_at_call 152;refine C2.mono ?_;rintro e w2 hr2;obtain⟨u2,f2,rfl⟩:=Zps hr2)
    go_ret2
    exact Zms TW G2 hr2
   ·rw[if_neg hz] at HE
    have C2:=NX.out _ k' t _ ht1 hM1 hk1 ht pt
    have G2:=GD.out k' t pt
    rw[←HE] at C2 G2
    clear HE EV0 EV1 NX CE hM1 hv hs hc ht hf GD BX TB ho
    go_wp2_with (go_at_call 152;refine C2.mono ?_;rintro e w2 hr2;obtain⟨u2,f2,rfl⟩:=Zps hr2)
    go_ret2
    exact Zms TW G2 hr2
  all_goals
   have HO:Hid (R=none):=HE
   clear HE EV0 EV1 NX CE hM1 hv hs hc ht hf GD BX TB ho
   go_wp2_with fail
   go_ret2
   exact Zk7 HO.out TW (Zb9 _)
 ·have TW:=TB.out _ ht1
  have HO:Hid (R=none):=EV0.out ho
  have HF:Hid (Zii fl):=hfl
  obtain⟨tf,yf,rfl⟩:=hfl.iface
  clear EV0 EV1 NX CE hs hc ht hf GD BX TB ho hfl
  go_wp2_with fail
  go_ret2
  exact Zk7 HO.out TW HF.out
theorem let_of (IH:RDo mb fns E k0)(good:Zg2 E)(w:World)(D:Nat→Prop)(k:Nat)(n:List UInt8)(a b:Ex)(sp pl:Int)(nb:ByteArray)(xa xb:Value)(s:Env)(y:Value)(hk:k≤k0)(hD:¬ D mb)(hD2:∀g,w.heap.size≤g→D g)(hM:Zfw w mb fns k)(hn:nb.data.toList=n)
  (ha:Zc8 w (·<mb) a xa) (hb:Zc8 w (·<mb) b xb) (hs:SC w D s y) (pa:XPo fns s a) (pb:∀u,Zec u→XPo fns ((n,u)::s) b) :
  Calls prog 232 #[.pointer (some ⟨mb,0,none⟩),.agg #[.int .i64 sp,.string nb,.int .i64 pl,xa,xb],y] w (Zbl D mb fns (Zk5 E k s n [a,b]) w):=by
 obtain⟨R,hR⟩:∃R,R=Zk5 E k s n [a,b]:=⟨_,rfl⟩
 rw[←hR]
 obtain⟨o,rfl⟩:=hs.ptr
 obtain⟨t0,y0,rfl⟩:=ha.iface
 obtain⟨t1,y1,rfl⟩:=hb.iface
 have hmb:=hM.lt
 have bX:=Zab w (Obj.cells #[.int .i64 sp,.string nb,.int .i64 pl,.iface t0 y0,.iface t1 y1] 411)
 have hXb:(w.alloc (Obj.cells #[.int .i64 sp,.string nb,.int .i64 pl,.iface t0 y0,.iface t1 y1] 411)).heap[w.heap.size]?=some (Obj.cells #[.int .i64 sp,.string nb,.int .i64 pl,.iface t0 y0,.iface t1 y1] 411):=heap_alloc_new _ _
 have CE:=IH.use good _ D k a _ s _ hk hD (fun g hg=>hD2 g (by simp at hg;omega)) (hM.below bX) (ha.below bX) (hs.below bX) pa
 have TB:Hid (∀X,Zaa (·=mb) (w.alloc (Obj.cells #[.int .i64 sp,.string nb,.int .i64 pl,.iface t0 y0,.iface t1 y1] 411)) X→Zaa (·=mb) w X):=fun X hX=>(Zaa.of_below bX).trans hX
 have BX:Hid (∀X,Zaa (·=mb) (w.alloc (Obj.cells #[.int .i64 sp,.string nb,.int .i64 pl,.iface t0 y0,.iface t1 y1] 411)) X→X.cell? ⟨w.heap.size,1,none⟩=some (.string nb)∧X.cell? ⟨w.heap.size,4,none⟩=some (.iface t1 y1)):=fun X hX=>by
  refine⟨hX.cell ?_ (by show ¬ w.heap.size=mb;omega),hX.cell ?_ (by show ¬ w.heap.size=mb;omega)⟩
  ·unfold World.cell?;rw[hXb];rfl
  ·unfold World.cell?;rw[hXb];rfl
 have EV0:Hid (E k s a=none→R=none):=fun h=>by simp only[hR,Zk5,h]
 have EV1:Hid (∀v k',E k s a=some (v,k')→R=E k' ((n,v)::s) b):=fun v k' h=>by simp only[hR,Zk5,h]
 have NX:Hid (∀(X Y:World) (k1 bb:Nat) (v:PV) (z:Value),Zaa (·=mb) (w.alloc (Obj.cells #[.int .i64 sp,.string nb,.int .i64 pl,.iface t0 y0,.iface t1 y1] 411)) X→Zfw X mb fns k1→k1≤k→VL X D v z→Zec v→Below X.heap.size X Y→X.heap.size≤bb→Y.heap[bb]?=some (.cells #[.string nb,z,.pointer o] 382)→R=E k1 ((n,v)::s) b→Calls prog 152 #[.pointer (some ⟨mb,0,none⟩),.iface t1 y1,.pointer (some ⟨bb,0,none⟩)] Y fun e w'=>(∃u f,e=.returned (.tuple #[u,f]))∧Zbl D mb fns R w e w'):=fun X Y k1 bb v z hX hMX hk1 hv hfv hY hbb hyb hRe=>by
  have hXz:=hX.size
  simp at hXz
  have hsX:SC X D s (.pointer o):=(hs.below bX).touch hX fun q hq e=>hD (by have e:q=mb:=e;rw[←e];exact hq)
  have hsY:SC Y D ((n,v)::s) (.pointer (some ⟨bb,0,none⟩)):=SC.cons (_w:=Y) (hsX.below hY) hn (hv.below hY) (hD2 bb (by omega)) hyb
  refine (IH Y D k1 b _ _ _ (by omega) hD (fun g hg=>hD2 g (by have:=hY.size;omega)) (hMX.below hY) (((hb.below bX).touch hX).below hY) hsY (pb v hfv)).mono fun e w' hr=>⟨Zps hr,?_⟩
  rw[hRe]
  exact Zms ((TB.out _ hX).below_at hY) (fun u k' h=>(good k1 _ b u k' (pb v hfv).fine (pb v hfv).lit h).1.2) hr
 clear hXb bX hM hR
 go_enter func232,ntmps232
 go_wp2_with fail
 refine CE.mono ?_
 rintro e w1 ⟨ht1,⟨v,z,k',ho,rfl,hv,hM1,hk1,hfv⟩ | ⟨ho,u,fl,hfl,rfl⟩⟩
 ·obtain⟨b1,b4⟩:=BX.out _ ht1
  have HE:=EV1.out _ _ ho
  obtain⟨tz,yz,rfl⟩:=hv.iface
  have CW:Hid (∀X,Calls prog 151 #[.pointer o,.string nb,.iface tz yz] X _):=fun X=>Zpn (.pointer o) (.iface tz yz) nb X ⟨_,rfl⟩ ⟨_,_,rfl⟩
  have N2:Hid (∀(Y:World) (bb:Nat),Below w1.heap.size w1 Y→w1.heap.size≤bb→Y.heap[bb]?=some (.cells #[.string nb,.iface tz yz,.pointer o] 382)→_):=fun Y bb h1 h2 h3=>NX.out w1 Y k' bb v _ ht1 hM1 hk1 hv hfv h1 h2 h3 HE
  clear HE EV0 EV1 NX CE hM1 hv hs ha hb BX TB ho
  go_wp2_with fail
  go_region_with (first
   |(go_at_call 151;refine (CW.out _).mono ?_;rintro e w5 ⟨hb5,b5,hb5a,rfl,hb5c⟩;have b4':=Below.cellv hb5 b4)
   |(go_at_call 152;go_loud (refine (N2.out _ _ (Below.undrew hb5) hb5a hb5c).mono ?_;rintro e w6 ⟨⟨u6,f6,rfl⟩,hr6⟩)))
  all_goals (go_wp2_with fail)
  all_goals (go_ret2;exact hr6)
 ·have TW:=TB.out _ ht1
  have HO:Hid (R=none):=EV0.out ho
  have HF:Hid (Zii fl):=hfl
  obtain⟨tf,yf,rfl⟩:=hfl.iface
  clear EV0 EV1 NX CE hs ha hb BX TB ho hfl
  go_wp2_with fail
  go_ret2
  exact Zk7 HO.out TW HF.out
end
end Go.Proofs.YtliapghpeoaonaaGreatDoor
