/-
  The program: carryOut's ways: if, let, len.
-/
import Derived.Test.YtifhgjpglicjbaaGreatDoorReG
set_option maxHeartbeats 4000000
set_option maxRecDepth 8000
namespace Go.Proofs.YtifhgjpglicjbaaGreatDoor
open Go.Proofs.Tryz
open Go.RowKit Go.Lib
attribute [local go_sem ↓] Go.wp_at_zero Go.wp_at_succ
attribute [local go_sem] va_num_num va_num_txt va_num_lst va_txt_num va_txt_txt va_txt_lst va_lst_num va_lst_txt va_lst_lst
theorem Below.undrew {B:Nat}{a w:World}(h:Below B a.drew w):Below B a w:=⟨h.os,h.tape,h.output,h.size,h.block⟩
section
variable {mb k0:Nat} {fns:List Fn} {E:Nat→Env→Ex→Option (PV×Nat)}
theorem RDo.use (IH:RDo mb fns E k0)(good:GoodE E)(X:World)(D:Nat→Prop)(k:Nat)(e:Ex)(x:Value)(s:Env)(y:Value)(hk:k≤k0)(hD:¬ D mb)(hD2:∀g,X.heap.size≤g→D g)(hM:Mach X mb fns k)(hr:RepE X (·<mb) e x)(hs:SC X D s y)(hx:XPo fns s e):
  Calls prog 76 #[.pointer (some ⟨mb,0,none⟩),x,y] X fun r w'=>Touch (·=mb) X w'∧((∃v z k',E k s e=some (v,k')∧r=.returned (.tuple #[z,.nilIface])∧VL w' D v z∧Mach w' mb fns k'∧k'≤k∧Fine v)∨(E k s e=none∧∃u f,FltV f∧r=.returned (.tuple #[u,f]))) :=
 (IH X D k e x s y hk hD hD2 hM hr hs hx).mono fun r w' ⟨a,b⟩=>⟨a,by
  rcases b with ⟨v,z,k',h1,h2,h3,h4⟩ | h
  ·have g:=good k s e v k' hx.fine hx.lit h1
   exact Or.inl ⟨v,z,k',h1,h2,h3,h4,g.2,g.1⟩
  ·exact Or.inr h⟩
theorem choose_of (IH:RDo mb fns E k0)(good:GoodE E)(w:World)(D:Nat→Prop)(k:Nat)(c t f:Ex)(sp:Int)(xc xt xf:Value)(s:Env)(y:Value)(hk:k≤k0)(hD:¬ D mb)(hD2:∀g,w.heap.size≤g→D g)(hM:Mach w mb fns k)
  (hc:RepE w (·<mb) c xc) (ht:RepE w (·<mb) t xt) (hf:RepE w (·<mb) f xf) (hs:SC w D s y) (pc:XPo fns s c) (pt:XPo fns s t) (pf:XPo fns s f) :
  Calls prog 149 #[.pointer (some ⟨mb,0,none⟩),.agg #[.int .i64 sp,xc,xt,xf],y] w (crPost D mb fns (evIf (fun k e=>E k s e) k [c,t,f]) w):=by
 obtain⟨R,hR⟩:∃R,R=evIf (fun k e=>E k s e) k [c,t,f]:=⟨_,rfl⟩
 rw[←hR]
 obtain⟨o,rfl⟩:=hs.ptr
 obtain⟨t0,y0,rfl⟩:=hc.iface
 obtain⟨t1,y1,rfl⟩:=ht.iface
 obtain⟨t2,y2,rfl⟩:=hf.iface
 have hmb:=hM.lt
 have bX:=below1 w (Obj.cells #[.int .i64 sp,.iface t0 y0,.iface t1 y1,.iface t2 y2] 290)
 have hXb:(w.alloc (Obj.cells #[.int .i64 sp,.iface t0 y0,.iface t1 y1,.iface t2 y2] 290)).heap[w.heap.size]?=some (.cells #[.int .i64 sp,.iface t0 y0,.iface t1 y1,.iface t2 y2] 290):=heap_alloc_new _ _
 have CE:=IH.use good _ D k c _ s _ hk hD (fun g hg=>hD2 g (by simp at hg;omega)) (hM.below bX) (hc.below bX) (hs.below bX) pc
 have NX:Hid (∀(X:World) (k1:Nat) (e:Ex) (x:Value),Touch (·=mb) (w.alloc (Obj.cells #[.int .i64 sp,.iface t0 y0,.iface t1 y1,.iface t2 y2] 290)) X→Mach X mb fns k1→k1≤k→RepE w (·<mb) e x→XPo fns s e→Calls prog 76 #[.pointer (some ⟨mb,0,none⟩),x,.pointer o] X (rkPost D mb fns (E k1 s e) X)):=fun X k1 e x hX hMX hk1 he hp=>IH X D k1 e x s _ (by omega) hD (fun g hg=>hD2 g (by have:=hX.size;simp at this;omega)) hMX ((he.below bX).touch hX) ((hs.below bX).touch hX fun q hq e=>hD (by have e:q=mb:=e;rw[←e];exact hq)) hp
 have GD:Hid (∀k1 e,XPo fns s e→∀v k',E k1 s e=some (v,k')→wtV v≤600):=fun k1 e hp v k' h=>(good k1 s e v k' hp.fine hp.lit h).1.2
 have TB:Hid (∀X,Touch (·=mb) (w.alloc (Obj.cells #[.int .i64 sp,.iface t0 y0,.iface t1 y1,.iface t2 y2] 290)) X→Touch (·=mb) w X):=fun X hX=>(Touch.of_below bX).trans hX
 have BX:Hid (∀X,Touch (·=mb) (w.alloc (Obj.cells #[.int .i64 sp,.iface t0 y0,.iface t1 y1,.iface t2 y2] 290)) X→X.cell? ⟨w.heap.size,2,none⟩=some (.iface t1 y1)∧X.cell? ⟨w.heap.size,3,none⟩=some (.iface t2 y2)):=fun X hX=>by
  refine⟨hX.cell ?_ (by show ¬ w.heap.size=mb;omega),hX.cell ?_ (by show ¬ w.heap.size=mb;omega)⟩
  ·unfold World.cell?;rw[hXb];rfl
  ·unfold World.cell?;rw[hXb];rfl
 have EV0:Hid (E k s c=none→R=none):=fun h=>by simp only[hR,evIf,h]
 have EV1:Hid (∀v k',E k s c=some (v,k')→R=match v with | .num z=>if z=0 then E k' s f else E k' s t | _=>none):=fun v k' h=>by
  simp only[hR,evIf,h]
  cases v<;>rfl
 clear hXb bX hM hR
 go_enter func149,ntmps149
 go_wp2_with fail
 refine CE.mono ?_
 rintro e w1 ⟨ht1,⟨v,z,k',ho,rfl,hv,hM1,hk1,hfv⟩ | ⟨ho,u,fl,hfl,rfl⟩⟩
 ·obtain⟨b2,b3⟩:=BX.out _ ht1
  have TW:=TB.out _ ht1
  have HE:=EV1.out _ _ ho
  rcases VL_kind hv with ⟨z,rfl,rfl⟩ | ⟨sx,rfl,rfl⟩ | ⟨l,ad,cap,cs,rfl,rfl,_,_⟩
  ·simp only at HE
   by_cases hz:z=0
   ·rw[if_pos hz] at HE
    have C2:=NX.out _ k' f _ ht1 hM1 hk1 hf pf
    have G2:=GD.out k' f pf
    rw[←HE] at C2 G2
    subst hz
    clear HE EV0 EV1 NX CE hM1 hv hs hc ht hf GD BX TB ho
    go_wp2_with (go_at_call 76;refine C2.mono ?_;rintro e w2 hr2;obtain⟨u2,f2,rfl⟩:=rk_tup hr2)
    go_ret2
    exact cr_of_rk TW G2 hr2
   ·rw[if_neg hz] at HE
    have C2:=NX.out _ k' t _ ht1 hM1 hk1 ht pt
    have G2:=GD.out k' t pt
    rw[←HE] at C2 G2
    clear HE EV0 EV1 NX CE hM1 hv hs hc ht hf GD BX TB ho
    go_wp2_with (go_at_call 76;refine C2.mono ?_;rintro e w2 hr2;obtain⟨u2,f2,rfl⟩:=rk_tup hr2)
    go_ret2
    exact cr_of_rk TW G2 hr2
  all_goals
   have HO:Hid (R=none):=HE
   clear HE EV0 EV1 NX CE hM1 hv hs hc ht hf GD BX TB ho
   go_wp2_with fail
   go_ret2
   exact cr_no HO.out TW (flt_why _)
 ·have TW:=TB.out _ ht1
  have HO:Hid (R=none):=EV0.out ho
  have HF:Hid (FltV fl):=hfl
  obtain⟨tf,yf,rfl⟩:=hfl.iface
  clear EV0 EV1 NX CE hs hc ht hf GD BX TB ho hfl
  go_wp2_with fail
  go_ret2
  exact cr_no HO.out TW HF.out
theorem let_of (IH:RDo mb fns E k0)(good:GoodE E)(w:World)(D:Nat→Prop)(k:Nat)(n:List UInt8)(a b:Ex)(sp pl:Int)(nb:ByteArray)(xa xb:Value)(s:Env)(y:Value)(hk:k≤k0)(hD:¬ D mb)(hD2:∀g,w.heap.size≤g→D g)(hM:Mach w mb fns k)(hn:nb.data.toList=n)
  (ha:RepE w (·<mb) a xa) (hb:RepE w (·<mb) b xb) (hs:SC w D s y) (pa:XPo fns s a) (pb:∀u,Fine u→XPo fns ((n,u)::s) b) :
  Calls prog 150 #[.pointer (some ⟨mb,0,none⟩),.agg #[.int .i64 sp,.string nb,.int .i64 pl,xa,xb],y] w (crPost D mb fns (evLet E k s n [a,b]) w):=by
 obtain⟨R,hR⟩:∃R,R=evLet E k s n [a,b]:=⟨_,rfl⟩
 rw[←hR]
 obtain⟨o,rfl⟩:=hs.ptr
 obtain⟨t0,y0,rfl⟩:=ha.iface
 obtain⟨t1,y1,rfl⟩:=hb.iface
 have hmb:=hM.lt
 have bX:=below1 w (Obj.cells #[.int .i64 sp,.string nb,.int .i64 pl,.iface t0 y0,.iface t1 y1] 279)
 have hXb:(w.alloc (Obj.cells #[.int .i64 sp,.string nb,.int .i64 pl,.iface t0 y0,.iface t1 y1] 279)).heap[w.heap.size]?=some (Obj.cells #[.int .i64 sp,.string nb,.int .i64 pl,.iface t0 y0,.iface t1 y1] 279):=heap_alloc_new _ _
 have CE:=IH.use good _ D k a _ s _ hk hD (fun g hg=>hD2 g (by simp at hg;omega)) (hM.below bX) (ha.below bX) (hs.below bX) pa
 have TB:Hid (∀X,Touch (·=mb) (w.alloc (Obj.cells #[.int .i64 sp,.string nb,.int .i64 pl,.iface t0 y0,.iface t1 y1] 279)) X→Touch (·=mb) w X):=fun X hX=>(Touch.of_below bX).trans hX
 have BX:Hid (∀X,Touch (·=mb) (w.alloc (Obj.cells #[.int .i64 sp,.string nb,.int .i64 pl,.iface t0 y0,.iface t1 y1] 279)) X→X.cell? ⟨w.heap.size,1,none⟩=some (.string nb)∧X.cell? ⟨w.heap.size,4,none⟩=some (.iface t1 y1)):=fun X hX=>by
  refine⟨hX.cell ?_ (by show ¬ w.heap.size=mb;omega),hX.cell ?_ (by show ¬ w.heap.size=mb;omega)⟩
  ·unfold World.cell?;rw[hXb];rfl
  ·unfold World.cell?;rw[hXb];rfl
 have EV0:Hid (E k s a=none→R=none):=fun h=>by simp only[hR,evLet,h]
 have EV1:Hid (∀v k',E k s a=some (v,k')→R=E k' ((n,v)::s) b):=fun v k' h=>by simp only[hR,evLet,h]
 have NX:Hid (∀(X Y:World) (k1 bb:Nat) (v:PV) (z:Value),Touch (·=mb) (w.alloc (Obj.cells #[.int .i64 sp,.string nb,.int .i64 pl,.iface t0 y0,.iface t1 y1] 279)) X→Mach X mb fns k1→k1≤k→VL X D v z→Fine v→Below X.heap.size X Y→X.heap.size≤bb→Y.heap[bb]?=some (.cells #[.string nb,z,.pointer o] 255)→R=E k1 ((n,v)::s) b→Calls prog 76 #[.pointer (some ⟨mb,0,none⟩),.iface t1 y1,.pointer (some ⟨bb,0,none⟩)] Y fun e w'=>(∃u f,e=.returned (.tuple #[u,f]))∧crPost D mb fns R w e w'):=fun X Y k1 bb v z hX hMX hk1 hv hfv hY hbb hyb hRe=>by
  have hXz:=hX.size
  simp at hXz
  have hsX:SC X D s (.pointer o):=(hs.below bX).touch hX fun q hq e=>hD (by have e:q=mb:=e;rw[←e];exact hq)
  have hsY:SC Y D ((n,v)::s) (.pointer (some ⟨bb,0,none⟩)):=SC.cons (_w:=Y) (hsX.below hY) hn (hv.below hY) (hD2 bb (by omega)) hyb
  refine (IH Y D k1 b _ _ _ (by omega) hD (fun g hg=>hD2 g (by have:=hY.size;omega)) (hMX.below hY) (((hb.below bX).touch hX).below hY) hsY (pb v hfv)).mono fun e w' hr=>⟨rk_tup hr,?_⟩
  rw[hRe]
  exact cr_of_rk ((TB.out _ hX).below_at hY) (fun u k' h=>(good k1 _ b u k' (pb v hfv).fine (pb v hfv).lit h).1.2) hr
 clear hXb bX hM hR
 go_enter func150,ntmps150
 go_wp2_with fail
 refine CE.mono ?_
 rintro e w1 ⟨ht1,⟨v,z,k',ho,rfl,hv,hM1,hk1,hfv⟩ | ⟨ho,u,fl,hfl,rfl⟩⟩
 ·obtain⟨b1,b4⟩:=BX.out _ ht1
  have HE:=EV1.out _ _ ho
  obtain⟨tz,yz,rfl⟩:=hv.iface
  have CW:Hid (∀X,Calls prog 75 #[.pointer o,.string nb,.iface tz yz] X _):=fun X=>scwith_any (.pointer o) (.iface tz yz) nb X ⟨_,rfl⟩ ⟨_,_,rfl⟩
  have N2:Hid (∀(Y:World) (bb:Nat),Below w1.heap.size w1 Y→w1.heap.size≤bb→Y.heap[bb]?=some (.cells #[.string nb,.iface tz yz,.pointer o] 255)→_):=fun Y bb h1 h2 h3=>NX.out w1 Y k' bb v _ ht1 hM1 hk1 hv hfv h1 h2 h3 HE
  clear HE EV0 EV1 NX CE hM1 hv hs ha hb BX TB ho
  go_wp2_with fail
  go_region_with (first
   |(go_at_call 75;refine (CW.out _).mono ?_;rintro e w5 ⟨hb5,b5,hb5a,rfl,hb5c⟩;have b4':=Below.cellv hb5 b4)
   |(go_at_call 76;go_loud (refine (N2.out _ _ (Below.undrew hb5) hb5a hb5c).mono ?_;rintro e w6 ⟨⟨u6,f6,rfl⟩,hr6⟩)))
  all_goals (go_wp2_with fail)
  all_goals (go_ret2;exact hr6)
 ·have TW:=TB.out _ ht1
  have HO:Hid (R=none):=EV0.out ho
  have HF:Hid (FltV fl):=hfl
  obtain⟨tf,yf,rfl⟩:=hfl.iface
  clear EV0 EV1 NX CE hs ha hb BX TB ho hfl
  go_wp2_with fail
  go_ret2
  exact cr_no HO.out TW HF.out
end
theorem light_cr (u:PV)(k:Nat):(lightV (some u)).map (fun v=>(v,k))=if wtV u≤600 then some (u,k) else none:=by
 unfold lightV
 split
 ·rename_i v h
  cases h
  split<;>rfl
 ·rename_i h;cases h
theorem light_no (k:Nat):(lightV none).map (fun v=>(v,k))=none:=rfl
theorem lengV_wt {a v:PV}(h:lengV a=some v):wtV v≤1:=by
 cases a with
 | num _=>cases h
 | txt b=>cases h;rw[wtV];exact Nat.le_refl _
 | lst l=>cases h;rw[wtV];exact Nat.le_refl _
theorem set3_wt {a b c v:PV}(h:set3 a b c=some v)(ha:wtV a≤600)(hc:wtV c≤600):wtV v≤2000:=by
 cases a with
 | lst l =>
  cases b with
  | num i =>
   have h2:setV l i c=some v:=h
   unfold setV at h2
   split at h2
   ·cases h2
    rw[wtV] at ha ⊢
    have:=wtVs_setV c l i.toNat
    omega
   ·cases h2
  | txt _=>cases h
  | lst _=>cases h
 | num _=>cases h
 | txt _=>cases h
theorem op2_wt {wd:List UInt8}{a b v:PV}(h:op2 wd a b=some v)(ha:wtV a≤600)(hb:wtV b≤600):wtV v≤2000:=by
 unfold op2 at h
 split at h
 ·cases h;unfold bitV;rw[wtV];omega
 split at h
 ·split at h
  ·rename_i l i _ _
   unfold atV at h
   split at h
   ·have:=wtVs_mem (List.mem_of_getElem? h)
    rw[wtV] at ha
    omega
   ·cases h
  ·cases h
 split at h
 ·split at h
  ·cases h
   rw[wtV] at ha hb ⊢
   simp
   omega
  ·cases h
   rw[wtV] at ha hb ⊢
   rw[wtVs_app]
   omega
  ·cases h
 ·split at h
  ·cases h
   unfold numOp bitV
   split
   ·rw[wtV];omega
   split
   ·rw[wtV];omega
   split
   ·rw[wtV];omega
   ·rw[wtV];omega
  ·cases h
theorem cr_of_ve {D:Nat→Prop}{mb k:Nat}{fns:List Fn}{o:Option PV}{w w1 w':World}{e:Ending}(ht:Touch (·=mb) w w1)(hM:Mach w1 mb fns k)(hw:∀v,o=some v→wtV v≤2000)(h:vePost D w1 o e w'):crPost D mb fns ((lightV o).map fun v=>(v,k)) w e w':=by
 obtain⟨hb,⟨v,x,ho,he,hv⟩ | ⟨ho,u,f,hf,he⟩⟩:=h
 ·subst ho
  have:=hw v rfl
  exact⟨ht.below_at hb,Or.inl ⟨v,x,k,light_cr v k,by omega,he,hv,hM.below hb⟩⟩
 ·subst ho
  exact⟨ht.below_at hb,Or.inr ⟨rfl,u,f,hf,he⟩⟩
theorem al_tup {D:Nat→Prop}{mb:Nat}{fns:List Fn}{o:Option (List PV×Nat)}{w w':World}{e:Ending}(h:alPost D mb fns o w e w'):∃u f,e=.returned (.tuple #[u,f]):=by
 obtain⟨_,⟨_,_,_,_,_,h,_⟩ | ⟨_,f,_,h⟩⟩:=h
 ·exact⟨_,_,h⟩
 ·exact⟨_,_,h⟩
theorem al_cases {D:Nat→Prop}{mb:Nat}{fns:List Fn}{o:Option (List PV×Nat)}{w w':World}{u f:Value}(h:alPost D mb fns o w (.returned (.tuple #[u,f])) w'):Touch (·=mb) w w'∧((∃vs cs k',o=some (vs,k')∧f=.nilIface∧SegAt w' D 74 1 u vs.length cs∧VLs w' D vs cs∧Mach w' mb fns k')∨(o=none∧FltV f∧u=.slice none 0 0)):=by
 obtain⟨a,⟨vs,sl,cs,k',h1,h2,h3,h4,h5⟩ | ⟨h1,f',h2,h3⟩⟩:=h
 ·cases h2
  exact⟨a,Or.inl ⟨vs,cs,k',h1,rfl,h3,h4,h5⟩⟩
 ·cases h3
  exact⟨a,Or.inr ⟨h1,h2,rfl⟩⟩
theorem rowBlk {w:World}{g n mb:Nat}{xs:List Value}(h:w.heap[g]?=some (.cells xs.toArray 64))(hs:xs.length=n)(hm:n≤maxLen)(hg:g≠mb):RowAt w (·≠mb) 64 1 (.slice (some ⟨g,0,none⟩) n n) n xs:=by
 refine⟨by omega,Or.inr ⟨g,n,xs.toArray,rfl,hg,h,Nat.le_refl _,hm,by simp[hs],?_⟩⟩
 rw[List.take_of_length_le (by simp[hs])]
theorem blk2 (w:World)(o o':Obj):((w.alloc o).alloc o').heap[w.heap.size+1]?=some o':=by
 rw[show w.heap.size+1=(w.alloc o).heap.size from by simp]
 exact heap_alloc_new _ _
def callR (C:Nat→List PV→Option (PV×Nat)):Option (List PV×Nat)→Option (PV×Nat)
 | none=>none
 | some (vs,k)=>C k vs
def simR (wd:List UInt8):Option (List PV×Nat)→Option (PV×Nat)
 | none=>none
 | some (vs,k)=>(lightV (simpleV wd vs)).map fun v=>(v,k)
section
variable {mb k0:Nat} {fns:List Fn} {E:Nat→Env→Ex→Option (PV×Nat)}
theorem length_of (IH:RDo mb fns E k0)(good:GoodE E)(w:World)(D:Nat→Prop)(k:Nat)(wd:List UInt8)(a:Ex)(sp:Int)(xa:Value)(s:Env)(y:Value)(hk:k≤k0)(hD:¬ D mb)(hD2:∀g,w.heap.size≤g→D g)(hM:Mach w mb fns k)
  (ha:RepE w (·<mb) a xa) (hs:SC w D s y) (pa:XPo fns s a) :
  Calls prog 152 #[.pointer (some ⟨mb,0,none⟩),.agg #[.int .i64 sp,xa],y] w (crPost D mb fns (simR wd (evL (fun k e=>E k s e) k [a])) w):=by
 obtain⟨R,hR⟩:∃R,R=simR wd (evL (fun k e=>E k s e) k [a]):=⟨_,rfl⟩
 rw[←hR]
 have EV0:Hid (E k s a=none→R=none):=fun h=>by rw[hR,evL_noneP h];rfl
 have EV1:Hid (∀v k',E k s a=some (v,k')→R=(lightV (lengV v)).map fun u=>(u,k')):=fun v k' h=>by
  rw[hR]
  simp only[evL,h]
  rfl
 obtain⟨o,rfl⟩:=hs.ptr
 obtain⟨t0,y0,rfl⟩:=ha.iface
 have bX:=below1 w (Obj.cells #[.int .i64 sp,.iface t0 y0] 297)
 have CE:=IH.use good _ D k a _ s _ hk hD (fun g hg=>hD2 g (by simp at hg;omega)) (hM.below bX) (ha.below bX) (hs.below bX) pa
 have TB:Hid (∀X,Touch (·=mb) (w.alloc (Obj.cells #[.int .i64 sp,.iface t0 y0] 297)) X→Touch (·=mb) w X):=fun X hX=>(Touch.of_below bX).trans hX
 clear bX hM hs ha hR
 go_enter func152,ntmps152
 go_wp2_with fail
 refine CE.mono ?_
 rintro e w1 ⟨ht1,⟨v,z,k',ho,rfl,hv,hM1,hk1,hfv⟩ | ⟨ho,u,fl,hfl,rfl⟩⟩
 ·have HE:=EV1.out _ _ ho
  have CL:=lengthOf_any D v z w1 hv hfv.2
  have FIN:Hid (∀X e,vePost D w1 (lengV v) e X→crPost D mb fns R w e X):=fun X e h=>by
   rw[HE]
   exact cr_of_ve (TB.out _ ht1) hM1 (fun u hu=>by have:=lengV_wt hu;omega) h
  obtain⟨tz,yz,rfl⟩:=hv.iface
  clear CE hv hM1 HE EV0 EV1 ho
  go_wp2_with (go_at_call 183;refine CL.mono ?_;rintro e w2 hr2;obtain⟨u2,f2,rfl⟩:=ve_tup hr2)
  go_ret2
  exact FIN.out _ _ hr2
 ·have TW:=TB.out _ ht1
  have HO:Hid (R=none):=EV0.out ho
  have HF:Hid (FltV fl):=hfl
  obtain⟨tf,yf,rfl⟩:=hfl.iface
  clear CE hfl EV0 EV1 ho
  go_wp2_with fail
  go_ret2
  exact cr_no HO.out TW HF.out
def alRes (D:Nat→Prop)(mb:Nat)(fns:List Fn)(L:Option (List PV×Nat))(n k:Nat)(u f:Value)(w1:World):Prop :=
 (∃vs cs k',L=some (vs,k')∧f=.nilIface∧vs.length=n∧(∀v∈vs,Fine v)∧SegAt w1 D 74 1 u n cs∧VLs w1 D vs cs∧Mach w1 mb fns k'∧k'≤k)∨(L=none∧FltV f∧u=.slice none 0 0)
theorem LitEs_of:∀{es:List Ex},(∀e∈es,LitE e)→LitEs es
 | [],_=>by rw[LitEs];trivial
 | e::es,h=>by rw[LitEs];exact⟨h e (by simp),LitEs_of fun x hx=>h x (by simp[hx])⟩
theorem all_use (IH:RDo mb fns E k0)(good:GoodE E)(w:World)(D:Nat→Prop)(k:Nat)(es:List Ex)(xs:List Value)(s:Env)(y:Value)(hk:k≤k0)(hD:¬ D mb)(hD2:∀g,w.heap.size≤g→D g)(hM:Mach w mb fns k)
  (hrep:RepEs w (·<mb) es xs) (hs:SC w D s y) (hx:∀e∈es,XPo fns s e) (hsf:FineS s) (hl:es.length≤7000) (Z:World) (sl:Value) (hZ:Below w.heap.size w Z) (hrow:RowAt Z (·≠mb) 64 1 sl es.length xs) :
  Calls prog 148 #[.pointer (some ⟨mb,0,none⟩),y,sl] Z fun e w'=>∃u f,e=.returned (.tuple #[u,f])∧Touch (·=mb) Z w'∧alRes D mb fns (evL (fun k e=>E k s e) k es) es.length k u f w':=by
 refine (all_of IH good Z D k es xs sl s y hk hD (fun g hg=>hD2 g (by have:=hZ.size;omega)) (hM.below hZ) hrow ((hrep.keep fun q _ hlt=>hZ.block q hlt).weaken fun q hq=>hq.1) (hs.below hZ) hx hl).mono fun e w' h=>?_
 obtain⟨a,⟨vs,sl',cs,k',h1,h2,h3,h4,h5⟩ | ⟨h1,f',h2,h3⟩⟩:=h
 ·obtain⟨g1,g2,g3⟩:=evL_good good hsf es k vs k' (LitEs_of fun e he=>(hx e he).lit) h1
  exact⟨_,_,h2,a,Or.inl ⟨vs,cs,k',h1,rfl,g2,g1,by rw[←g2];exact h3,h4,h5,g3⟩⟩
 ·exact⟨_,_,h3,a,Or.inr ⟨h1,h2,rfl⟩⟩
theorem binary_of (IH:RDo mb fns E k0)(good:GoodE E)(w:World)(D:Nat→Prop)(k:Nat)(wd:List UInt8)(a b:Ex)(sp:Int)(ob:ByteArray)(xa xb:Value)(s:Env)(y:Value)(hk:k≤k0)(hD:¬ D mb)(hD2:∀g,w.heap.size≤g→D g)(hM:Mach w mb fns k)(hsh:shapeL wd=some (false,2))(hob:ob.data.toList=wd)
  (hrep:RepEs w (·<mb) [a,b] [xa,xb]) (hs:SC w D s y) (hx:∀e∈[a,b],XPo fns s e) (hsf:FineS s) :
  Calls prog 151 #[.pointer (some ⟨mb,0,none⟩),.agg #[.int .i64 sp,.string ob,xa,xb],y] w (crPost D mb fns (simR wd (evL (fun k e=>E k s e) k [a,b])) w):=by
 obtain⟨R,hR⟩:∃R,R=simR wd (evL (fun k e=>E k s e) k [a,b]):=⟨_,rfl⟩
 rw[←hR]
 have hmb:=hM.lt
 obtain⟨o,rfl⟩:=hs.ptr
 obtain⟨ta,ya,rfl⟩:=(hrep.at 0 (by simp) (by simp)).iface
 obtain⟨tb,yb,rfl⟩:=(hrep.at 1 (by simp) (by simp)).iface
 have bX:=below1 w (Obj.cells #[.int .i64 sp,.string ob,.iface ta ya,.iface tb yb] 295)
 have q1:(w.alloc (Obj.cells #[.int .i64 sp,.string ob,.iface ta ya,.iface tb yb] 295)).cell? ⟨w.heap.size,1,none⟩=some (.string ob):=by simp
 have q2:(w.alloc (Obj.cells #[.int .i64 sp,.string ob,.iface ta ya,.iface tb yb] 295)).cell? ⟨w.heap.size,2,none⟩=some (.iface ta ya):=by simp
 have q3:(w.alloc (Obj.cells #[.int .i64 sp,.string ob,.iface ta ya,.iface tb yb] 295)).cell? ⟨w.heap.size,3,none⟩=some (.iface tb yb):=by simp
 have CA:Hid (∀(Z:World) (g:Nat),Below w.heap.size w Z→Z.cell? ⟨w.heap.size,1,none⟩=some (.string ob)→Z.heap[g]?=some (.cells #[.iface ta ya,.iface tb yb] 64)→w.heap.size≤g→Calls prog 148 #[.pointer (some ⟨mb,0,none⟩),.pointer o,.slice (some ⟨g,0,none⟩) 2 2] Z fun e w'=>∃u f,e=.returned (.tuple #[u,f])∧Touch (·=mb) w w'∧w'.cell? ⟨w.heap.size,1,none⟩=some (.string ob)∧Hid (alRes D mb fns (evL (fun k e=>E k s e) k [a,b]) 2 k u f w')):=fun Z g hZ hc hg hge=>by
  refine (all_use IH good w D k [a,b] _ s _ hk hD hD2 hM hrep hs hx hsf (by simp) Z _ hZ (rowBlk (n:=2) hg rfl (by decide) (by omega))).mono fun e w' ⟨u,f,h1,h2,h3⟩=>⟨u,f,h1,(Touch.of_below hZ).trans h2,h2.cell hc (by show ¬ w.heap.size=mb;omega),h3⟩
 have EV0:Hid (evL (fun k e=>E k s e) k [a,b]=none→R=none):=fun h=>by rw[hR,h];rfl
 have EV1:Hid (∀v0 v1 k',evL (fun k e=>E k s e) k [a,b]=some ([v0,v1],k')→R=(lightV (op2 wd v0 v1)).map fun u=>(u,k')):=fun v0 v1 k' h=>by rw[hR,h];rfl
 clear hM hs hrep hx IH hR q2 q3
 go_enter func151,ntmps151
 go_wp2_with fail
 refine (CA.out _ _ (bX.alloc bX.size _) (alloc_cell q1) (blk2 _ _ _) (by simp)).mono ?_
 rintro e w1 ⟨u1,f1,rfl,ht1,c1,hr1⟩
 clear CA bX q1
 obtain⟨vs,cs,k',hL,rfl,hvl,hfi,hseg,hvs,hM1,hk1⟩ | ⟨hL,hf,rfl⟩:=hr1.out
 ·obtain⟨v0,v1,rfl⟩:∃v0 v1,vs=[v0,v1]:=by
   match vs,hvl with
   | [v0,v1],_=>exact⟨v0,v1,rfl⟩
  obtain⟨x0,hx0,hv0⟩:=hvs.at 0 (by simp)
  obtain⟨x1,hx1,hv1⟩:=hvs.at 1 (by simp)
  have hz:=ht1.size
  have f0:=(hfi v0 (by simp)).2
  have f1:=(hfi v1 (by simp)).2
  have HE:=EV1.out _ _ _ hL
  have CO:Hid (∀X,Below w1.heap.size w1 X→Calls prog 182 #[.string ob,x0,x1] X fun e w'=>(∃u f,e=.returned (.tuple #[u,f]))∧crPost D mb fns R w e w'):=fun X hX=>(operate_any D wd ob v0 v1 x0 x1 X hsh hob (hv0.below hX) (hv1.below hX) f0 f1 (fun g hg=>hD2 g (by have:=hX.size;omega))).mono fun e w' h=>⟨ve_tup h,by
   rw[HE]
   exact cr_of_ve (ht1.below_at hX) (hM1.below hX) (fun v hv=>op2_wt hv f0 f1) h⟩
  obtain⟨g,o,cp,rfl,_,hc1,hc2,hcell⟩:=hseg.cell (by omega)
  obtain⟨t0,y0,rfl⟩:=hv0.iface
  obtain⟨t1,y1,rfl⟩:=hv1.iface
  have c2:w1.cell? ⟨g,o,none⟩=some (.iface t0 y0):=by
   have:=hcell 0 (by omega)
   rw[hx0] at this
   exact this
  have c3:w1.cell? ⟨g,o+1,none⟩=some (.iface t1 y1):=by rw[hcell 1 (by omega),hx1]
  unfold maxLen at hc2
  clear hr1 EV0 EV1 hL hfi hseg hvs hM1 HE hcell hv0 hv1 hx0 hx1 hsf
  go_wp2_with fail
  go_region_with (go_at_call 182;go_loud (refine (CO.out _ (by first | exact Below.refl _ _ | exact (Below.refl _ _).drew)).mono ?_;rintro e w2 ⟨⟨u2,f2,rfl⟩,hr2⟩))
  all_goals (go_wp2_with fail)
  all_goals (go_ret2;exact hr2)
 ·have HO:Hid (R=none):=EV0.out hL
  have HF:Hid (FltV f1):=hf
  obtain⟨tf,yf,rfl⟩:=hf.iface
  clear hr1 EV0 EV1 hL hf
  go_wp2_with fail
  go_ret2
  exact cr_no HO.out ht1 HF.out
theorem set_of (IH:RDo mb fns E k0)(good:GoodE E)(w:World)(D:Nat→Prop)(k:Nat)(wd:List UInt8)(a b c:Ex)(sp:Int)(xa xb xc:Value)(s:Env)(y:Value)(hk:k≤k0)(hD:¬ D mb)(hD2:∀g,w.heap.size≤g→D g)(hM:Mach w mb fns k)
  (hrep:RepEs w (·<mb) [a,b,c] [xa,xb,xc]) (hs:SC w D s y) (hx:∀e∈[a,b,c],XPo fns s e) (hsf:FineS s) :
  Calls prog 153 #[.pointer (some ⟨mb,0,none⟩),.agg #[.int .i64 sp,xa,xb,xc],y] w (crPost D mb fns (simR wd (evL (fun k e=>E k s e) k [a,b,c])) w):=by
 obtain⟨R,hR⟩:∃R,R=simR wd (evL (fun k e=>E k s e) k [a,b,c]):=⟨_,rfl⟩
 rw[←hR]
 have hmb:=hM.lt
 obtain⟨o,rfl⟩:=hs.ptr
 obtain⟨ta,ya,rfl⟩:=(hrep.at 0 (by simp) (by simp)).iface
 obtain⟨tb,yb,rfl⟩:=(hrep.at 1 (by simp) (by simp)).iface
 obtain⟨tc,yc,rfl⟩:=(hrep.at 2 (by simp) (by simp)).iface
 have bX:=below1 w (Obj.cells #[.int .i64 sp,.iface ta ya,.iface tb yb,.iface tc yc] 292)
 have CA:Hid (∀(Z:World) (g:Nat),Below w.heap.size w Z→Z.heap[g]?=some (.cells #[.iface ta ya,.iface tb yb,.iface tc yc] 64)→w.heap.size≤g→Calls prog 148 #[.pointer (some ⟨mb,0,none⟩),.pointer o,.slice (some ⟨g,0,none⟩) 3 3] Z fun e w'=>∃u f,e=.returned (.tuple #[u,f])∧Touch (·=mb) w w'∧Hid (alRes D mb fns (evL (fun k e=>E k s e) k [a,b,c]) 3 k u f w')):=fun Z g hZ hg hge=>by
  refine (all_use IH good w D k [a,b,c] _ s _ hk hD hD2 hM hrep hs hx hsf (by simp) Z _ hZ (rowBlk (n:=3) hg rfl (by decide) (by omega))).mono fun e w' ⟨u,f,h1,h2,h3⟩=>⟨u,f,h1,(Touch.of_below hZ).trans h2,h3⟩
 have EV0:Hid (evL (fun k e=>E k s e) k [a,b,c]=none→R=none):=fun h=>by rw[hR,h];rfl
 have EV1:Hid (∀v0 v1 v2 k',evL (fun k e=>E k s e) k [a,b,c]=some ([v0,v1,v2],k')→R=(lightV (set3 v0 v1 v2)).map fun u=>(u,k')):=fun v0 v1 v2 k' h=>by rw[hR,h];rfl
 clear hM hs hrep hx IH hR
 go_enter func153,ntmps153
 go_wp2_with fail
 refine (CA.out _ _ (bX.alloc bX.size _) (blk2 _ _ _) (by simp)).mono ?_
 rintro e w1 ⟨u1,f1,rfl,ht1,hr1⟩
 clear CA bX
 obtain⟨vs,cs,k',hL,rfl,hvl,hfi,hseg,hvs,hM1,hk1⟩ | ⟨hL,hf,rfl⟩:=hr1.out
 ·obtain⟨v0,v1,v2,rfl⟩:∃v0 v1 v2,vs=[v0,v1,v2]:=by
   match vs,hvl with
   | [v0,v1,v2],_=>exact⟨v0,v1,v2,rfl⟩
  obtain⟨x0,hx0,hv0⟩:=hvs.at 0 (by simp)
  obtain⟨x1,hx1,hv1⟩:=hvs.at 1 (by simp)
  obtain⟨x2,hx2,hv2⟩:=hvs.at 2 (by simp)
  have hz:=ht1.size
  have f0:=(hfi v0 (by simp)).2
  have f2:=(hfi v2 (by simp)).2
  have HE:=EV1.out _ _ _ _ hL
  have CO:Hid (∀X,Below w1.heap.size w1 X→Calls prog 184 #[x0,x1,x2] X fun e w'=>(∃u f,e=.returned (.tuple #[u,f]))∧crPost D mb fns R w e w'):=fun X hX=>(replaced_any D v0 v1 v2 x0 x1 x2 X (hv0.below hX) (hv1.below hX) (hv2.below hX) f0 f2 (fun g hg=>hD2 g (by have:=hX.size;omega))).mono fun e w' h=>⟨ve_tup h,by
   rw[HE]
   exact cr_of_ve (ht1.below_at hX) (hM1.below hX) (fun v hv=>set3_wt hv f0 f2) h⟩
  obtain⟨g,o,cp,rfl,_,hc1,hc2,hcell⟩:=hseg.cell (by omega)
  obtain⟨t0,y0,rfl⟩:=hv0.iface
  obtain⟨t1,y1,rfl⟩:=hv1.iface
  obtain⟨t2,y2,rfl⟩:=hv2.iface
  have c2:w1.cell? ⟨g,o,none⟩=some (.iface t0 y0):=by
   have:=hcell 0 (by omega)
   rw[hx0] at this
   exact this
  have c3:w1.cell? ⟨g,o+1,none⟩=some (.iface t1 y1):=by rw[hcell 1 (by omega),hx1]
  have c4:w1.cell? ⟨g,o+2,none⟩=some (.iface t2 y2):=by rw[hcell 2 (by omega),hx2]
  unfold maxLen at hc2
  clear hr1 EV0 EV1 hL hfi hseg hvs hM1 HE hcell hv0 hv1 hv2 hx0 hx1 hx2 hsf
  go_wp2_with fail
  go_region_with (go_at_call 184;go_loud (refine (CO.out _ (by first | exact Below.refl _ _ | exact (Below.refl _ _).drew)).mono ?_;rintro e w2 ⟨⟨u2,f2,rfl⟩,hr2⟩))
  all_goals (go_wp2_with fail)
  all_goals (go_ret2;exact hr2)
 ·have HO:Hid (R=none):=EV0.out hL
  have HF:Hid (FltV f1):=hf
  obtain⟨tf,yf,rfl⟩:=hf.iface
  clear hr1 EV0 EV1 hL hf
  go_wp2_with fail
  go_ret2
  exact cr_no HO.out ht1 HF.out
theorem callWith_of (hP:ProgOk fns)(IH:RDo mb fns E k0)(good:GoodE E)(w:World)(D:Nat→Prop)(k:Nat)(n:List UInt8)(ks:List Ex)(xs:List Value)(sp pl:Int)(nb:ByteArray)(ad:Option Addr)(cap:Nat)(s:Env)(y:Value)(hk:k≤k0)(hD:¬ D mb)(hD2:∀g,w.heap.size≤g→D g)(hM:Mach w mb fns k)(hnb:nb.data.toList=n)(hfn:FnOf fns n ks.length)
  (hrep:RepEs w (·<mb) ks xs) (hrow:RowAt w (·<mb) 64 1 (.slice ad ks.length cap) ks.length xs) (hs:SC w D s y) (hx:∀e∈ks,XPo fns s e) (hsf:FineS s) (hl:ks.length≤7000) :
  Calls prog 154 #[.pointer (some ⟨mb,0,none⟩),.agg #[.int .i64 sp,.string nb,.int .i64 pl,.slice ad ks.length cap],y] w (crPost D mb fns (callR (fun k vs=>evC E fns k n vs) (evL (fun k e=>E k s e) k ks)) w):=by
 obtain⟨R,hR⟩:∃R,R=callR (fun k vs=>evC E fns k n vs) (evL (fun k e=>E k s e) k ks):=⟨_,rfl⟩
 rw[←hR]
 have hmb:=hM.lt
 obtain⟨o,rfl⟩:=hs.ptr
 have bX:=below1 w (Obj.cells #[.int .i64 sp,.string nb,.int .i64 pl,.slice ad ks.length cap] 282)
 have q1:(w.alloc (Obj.cells #[.int .i64 sp,.string nb,.int .i64 pl,.slice ad ks.length cap] 282)).cell? ⟨w.heap.size,1,none⟩=some (.string nb):=by simp
 have CA:=all_use IH good w D k ks xs s _ hk hD hD2 hM hrep hs hx hsf hl _ _ bX ((row_below hrow bX).weaken fun g hg=>by have hg:g<mb:=hg;show g≠mb;omega)
 have CC:Hid (∀(w1:World) (vs:List PV) (cs:List Value) (u:Value) (k':Nat),Touch (·=mb) (w.alloc (Obj.cells #[.int .i64 sp,.string nb,.int .i64 pl,.slice ad ks.length cap] 282)) w1→evL (fun k e=>E k s e) k ks=some (vs,k')→vs.length=ks.length→(∀v∈vs,Fine v)→SegAt w1 D 74 1 u ks.length cs→VLs w1 D vs cs→Mach w1 mb fns k'→k'≤k→w1.cell? ⟨w.heap.size,1,none⟩=some (.string nb)∧Calls prog 54 #[.pointer (some ⟨mb,0,none⟩),.string nb,u] w1 fun e w'=>(∃u f,e=.returned (.tuple #[u,f]))∧crPost D mb fns R w e w'):=fun w1 vs cs u k' ht hL hvl hfi hseg hvs hM1 hk1=>by
  have hz:=ht.size
  simp at hz
  refine⟨ht.cell q1 (by show ¬ w.heap.size=mb;omega),?_⟩
  rw[←hvl] at hseg hfn
  refine (call_of hP IH w1 D k' nb vs cs u (by omega) hD (fun g hg=>hD2 g (by omega)) hM1 hseg hvs hfi (by omega)).mono fun e w' h=>⟨rk_tup h,?_⟩
  have hRe:R=evCA E fns k' nb.data.toList vs:=by
   rw[hR,hL,hnb,evCA_eq hfn]
   rfl
  rw[hRe]
  refine cr_of_rk ((Touch.of_below bX).trans ht) (fun v k2 h2=>?_) h
  rw[hnb,evCA_eq hfn] at h2
  exact (evC_good good hP.lit hfi h2).1.2
 have CN:Hid (∀w1,Touch (·=mb) (w.alloc (Obj.cells #[.int .i64 sp,.string nb,.int .i64 pl,.slice ad ks.length cap] 282)) w1→evL (fun k e=>E k s e) k ks=none→Touch (·=mb) w w1∧R=none):=fun w1 ht hL=>⟨(Touch.of_below bX).trans ht,by rw[hR,hL];rfl⟩
 clear hM hs hrep hx IH hR hrow bX
 go_enter func154,ntmps154
 go_wp2_with fail
 refine CA.mono ?_
 rintro e w1 ⟨u1,f1,rfl,ht1,⟨vs,cs,k',hL,rfl,hvl,hfi,hseg,hvs,hM1,hk1⟩ | ⟨hL,hf,rfl⟩⟩
 ·obtain⟨c1,C2⟩:=CC.out w1 vs cs u1 k' ht1 hL hvl hfi hseg hvs hM1 hk1
  obtain⟨ua,uc,rfl⟩:=hseg.slice
  clear CA CC CN hL hvl hfi hseg hvs hM1
  go_wp2_with (go_at_call 54;refine C2.mono ?_;rintro e w2 ⟨⟨u2,f2,rfl⟩,hr2⟩)
  go_ret2
  exact hr2
 ·obtain⟨TW,HO'⟩:=CN.out _ ht1 hL
  have HO:Hid (R=none):=HO'
  have HF:Hid (FltV f1):=hf
  obtain⟨tf,yf,rfl⟩:=hf.iface
  clear CA CC CN hL hf HO'
  go_wp2_with fail
  go_ret2
  exact cr_no HO.out TW HF.out
end
def mapR (C:Nat→PV→Option (PV×Nat)):Option (PV×Nat)→Option (PV×Nat)
 | some (.lst l,k)=>lightL (evM C k l)
 | _=>none
theorem evM_noneP {C:Nat→PV→Option (PV×Nat)}{k:Nat}{v:PV}{vs:List PV}(h:C k v=none):evM C k (v::vs)=none:=by simp only[evM,h]
theorem evM_someP {C:Nat→PV→Option (PV×Nat)}{k k1:Nat}{v u:PV}{vs:List PV}(us:List PV)(h:C k v=some (u,k1)):addL us (evM C k (v::vs))=addL (us++[u]) (evM C k1 vs):=by
 simp only[evM,h]
 cases evM C k1 vs with
 | none=>rfl
 | some x=>simp[addL]
theorem wtVs_fine:∀(us:List PV),(∀u∈us,Fine u)→wtVs us≤600*us.length
 | [],_=>by simp[wtVs]
 | u::us,h=>by
  rw[wtVs,List.length_cons]
  have h1:=(h u (by simp)).2
  have h2:=wtVs_fine us fun x hx=>h x (by simp[hx])
  omega
theorem segBlk {w:World}{D:Nat→Prop}{g:Nat}{x:Value}(h:w.heap[g]?=some (.cells #[x] 74))(hg:D g):SegAt w D 74 1 (.slice (some ⟨g,0,none⟩) 1 1) 1 [x] :=
 SegAt.of_row ⟨rfl,Or.inr ⟨g,1,#[x],rfl,hg,h,Nat.le_refl _,by decide,rfl,rfl⟩⟩
section
variable {mb k0:Nat} {fns:List Fn} {E:Nat→Env→Ex→Option (PV×Nat)}
theorem map_of (hP:ProgOk fns)(IH:RDo mb fns E k0)(good:GoodE E)(w:World)(D:Nat→Prop)(k:Nat)(n:List UInt8)(a:Ex)(sp pl:Int)(nb:ByteArray)(xa:Value)(s:Env)(y:Value)(hk:k≤k0)(hD:¬ D mb)(hD2:∀g,w.heap.size≤g→D g)(hM:Mach w mb fns k)(hn:nb.data.toList=n)(hfn:FnOf fns n 1)
  (ha:RepE w (·<mb) a xa) (hs:SC w D s y) (pa:XPo fns s a) :
  Calls prog 155 #[.pointer (some ⟨mb,0,none⟩),.agg #[.int .i64 sp,.string nb,.int .i64 pl,xa],y] w (crPost D mb fns (mapR (fun k v=>evC E fns k n [v]) (E k s a)) w):=by
 obtain⟨C,hC⟩:∃C:Nat→PV→Option (PV×Nat),C=fun k v=>evC E fns k n [v]:=⟨_,rfl⟩
 rw[←hC]
 obtain⟨R,hR⟩:∃R,R=mapR C (E k s a):=⟨_,rfl⟩
 rw[←hR]
 have EV0:Hid (E k s a=none→R=none):=fun h=>by rw[hR,h];rfl
 have EV1:Hid (∀v k',E k s a=some (v,k')→R=mapR C (some (v,k'))):=fun v k' h=>by rw[hR,h]
 have hCe:∀k v,C k v=evCA E fns k nb.data.toList [v]:=fun k v=>by rw[hC,hn];exact (evCA_eq (vs:=[v]) hfn).symm
 have hCg:∀k u v k',Fine u→C k u=some (v,k')→Fine v∧k'≤k:=fun k u v k' hu h=>by
  rw[hC] at h
  exact evC_good good hP.lit (vs:=[u]) (fun x hx=>by simp at hx;rw[hx];exact hu) h
 obtain⟨o,rfl⟩:=hs.ptr
 obtain⟨t0,y0,rfl⟩:=ha.iface
 have hmb:=hM.lt
 have bX:=below1 w (Obj.cells #[.int .i64 sp,.string nb,.int .i64 pl,.iface t0 y0] 286)
 have hXb:(w.alloc (Obj.cells #[.int .i64 sp,.string nb,.int .i64 pl,.iface t0 y0] 286)).cell? ⟨w.heap.size,1,none⟩=some (.string nb):=by simp
 have CE:=IH.use good _ D k a _ s _ hk hD (fun g hg=>hD2 g (by simp at hg;omega)) (hM.below bX) (ha.below bX) (hs.below bX) pa
 have TB:Hid (∀X,Touch (·=mb) (w.alloc (Obj.cells #[.int .i64 sp,.string nb,.int .i64 pl,.iface t0 y0] 286)) X→Touch (·=mb) w X∧X.cell? ⟨w.heap.size,1,none⟩=some (.string nb)):=fun X hX=>⟨(Touch.of_below bX).trans hX,hX.cell hXb (by show ¬ w.heap.size=mb;omega)⟩
 clear bX hM hs ha hR hXb
 go_enter func155,ntmps155
 go_wp2_with fail
 refine CE.mono ?_
 rintro e w1 ⟨ht1,⟨v,z,k',ho,rfl,hv,hM1,hk1,hfv⟩ | ⟨ho,u,fl,hfl,rfl⟩⟩
 ·obtain⟨TW,cw⟩:=TB.out _ ht1
  have HE:=EV1.out _ _ ho
  rcases VL_kind hv with ⟨z,rfl,rfl⟩ | ⟨sx,rfl,rfl⟩ | ⟨l,ad,cap,cs,rfl,rfl,hseg,hvs⟩
  ·have HO:Hid (R=none):=HE
   clear HE EV0 EV1 CE hM1 hv TB ho
   go_wp2_with fail
   go_ret2
   exact cr_no HO.out (TW.alloc _) (flt_why _)
  ·have HO:Hid (R=none):=HE
   clear HE EV0 EV1 CE hM1 hv TB ho
   go_wp2_with fail
   go_ret2
   exact cr_no HO.out (TW.alloc _) (flt_why _)
  ·have HL:Aside (R=lightL (evM C k' l)):=HE
   have hwl:=hfv.2
   rw[wtV] at hwl
   have hll:=vlen_le l
   have hfi:∀v∈l,Fine v:=fun v hv=>hfv.item hv
   have CI:Hid (∀X,Calls prog 124 #[.agg #[.slice ad l.length cap,.int .i64 ((wtVs l:Nat):Int)]] X _):=fun X=>items2_any ad l.length cap _ X hseg.capOr (by omega)
   generalize hwtl:wtVs l=wl at *
   clear HE EV0 EV1 CE hv TB ho
   go_wp2_with (go_at_call 124;refine (CI.out _).mono ?_;rintro e w2 ⟨rfl,hb2⟩)
   have B12:Below w1.heap.size w1 w2:=(below1 w1 _).trans (hb2.mono (by simp))
   have T2:Touch (·=mb) w w2:=TW.below_at B12
   have M2:=hM1.below B12
   have cw2:=Below.cellv B12 cw
   have hsg2:=hseg.clip.below B12
   have hvs2:=hvs.below B12
   have hz2:=T2.size
   have hmb2:mb<w2.heap.size:=by omega
   have hk2:k'≤k0:=by omega
   have hl6:l.length≤600:=by omega
   have hli:((l.length:Nat):Int)≤600:=by omega
   clear hb2 B12 CI hM1 hseg hvs cw hfv TW ht1 hwtl hwl hll
   go_loopg [12,39] l.length (fun gh av iv wr=>∃(j kk:Nat) (us:List PV) (cu:List Value) (ad':Option Addr) (cap':Nat),gh=l.length-j∧iv=.int .i64 ((j:Nat):Int)∧av=.slice ad' us.length cap'∧j≤l.length∧Aside (us.length=j)∧kk≤k0∧Aside (∀u∈us,Fine u)∧AL D w2 wr mb fns kk ad' cap' us cu∧Aside (R=lightL (addL us (evM C kk (l.drop j)))))
   case atStart=>exact⟨0,k',[],[],none,0,by omega,rfl,rfl,Nat.zero_le _,(show _=_ from rfl),hk2,(show ∀u∈[],Fine u from by simp),⟨World.ownsRow_nil _ _ _ _,by rw[VLs],Touch.refl _ _,M2⟩,by show _=_;rw[addL_nil,List.drop_zero];exact HL.out⟩
   case round =>
    obtain⟨j,kk,us,cu,ad',cap',rfl,rfl,rfl,hj,hul,hkk,hfu,al,hPP⟩:=hrel
    have hub:us.length≤600:=by have:=hul.out;omega
    by_cases hjl:j<l.length
    ·have hdr:l.drop j=l[j]::l.drop (j+1):=List.drop_eq_getElem_cons hjl
     rw[hdr] at hPP
     obtain⟨x,hx,hvx⟩:=hvs2.at j hjl
     obtain⟨tx,yx,rfl⟩:=hvx.iface
     obtain⟨g,o2,cp,hcap2,hgD,hc1,hc2,hcell⟩:=hsg2.cell (by omega)
     cases hcap2
     have c0:wr.cell? ⟨g,o2+j,none⟩=some (.iface tx yx):=al.tch.cell (by rw[hcell j (by omega)];exact hx) (by show ¬ g=mb;intro e;exact hD (by rw[←e];exact hgD))
     have c1:wr.cell? ⟨w.heap.size,1,none⟩=some (.string nb):=al.tch.cell cw2 (by show ¬ w.heap.size=mb;omega)
     have hszr:w2.heap.size≤wr.heap.size:=al.tch.size
     have hvr:VL wr (fun b=>D b∧some b≠(Value.slice ad' us.length cap').ownBlock) l[j] (.iface tx yx):=hvx.map fun _ _ _ h=>(h.keep fun q hq hlt=>al.tch.block q hlt (fun e=>hD (by have e:q=mb:=e;rw[←e];exact hq))).weaken fun q hq=>⟨hq.1,fun e=>by have:=(al.row q e.symm).1;have:=hq.2;omega⟩
     have hDw:∀q,wr.heap.size≤q→D q∧some q≠(Value.slice ad' us.length cap').ownBlock:=fun q hq=>⟨hD2 q (by omega),fun e=>by have:=(al.row q e.symm).2;omega⟩
     have hfj:=hfi l[j] (List.getElem_mem hjl)
     have CC:Hid (∀(Z:World) (b:Nat),Below wr.heap.size wr Z→Z.heap[b]?=some (.cells #[.iface tx yx] 74)→wr.heap.size≤b→Calls prog 54 #[.pointer (some ⟨mb,0,none⟩),.string nb,.slice (some ⟨b,0,none⟩) 1 1] Z fun e w'=>Touch (·=mb) wr w'∧((∃u z k2,C kk l[j]=some (u,k2)∧e=.returned (.tuple #[z,.nilIface])∧VL w' (fun b=>D b∧some b≠(Value.slice ad' us.length cap').ownBlock) u z∧Mach w' mb fns k2)∨(C kk l[j]=none∧∃u f,FltV f∧e=.returned (.tuple #[u,f])))):=fun Z b hZ hblk hb=>by
      have hcl:=call_of hP IH Z (fun b=>D b∧some b≠(Value.slice ad' us.length cap').ownBlock) kk nb [l[j]] [.iface tx yx] _ hkk (fun h=>hD h.1) (fun q hq=>hDw q (by have:=hZ.size;omega)) (al.mch.below hZ) (segBlk hblk (hDw b hb)) (VLs.one (hvr.below hZ)) (fun u hu=>by simp at hu;rw[hu];exact hfj) (by simp)
      rw[←hCe] at hcl
      exact hcl.mono fun e w' h=>⟨(Touch.of_below hZ).trans h.1,h.2⟩
     have GK:Hid (∀u k2,C kk l[j]=some (u,k2)→Fine u∧k2≤kk):=fun u k2 h=>hCg kk l[j] u k2 hfj h
     have NO:Hid (C kk l[j]=none→R=none):=fun h=>by rw[hPP.out,evM_noneP h];rfl
     have GO:Hid (∀u k2,C kk l[j]=some (u,k2)→Aside (R=lightL (addL (us++[u]) (evM C k2 (l.drop (j+1)))))):=fun u k2 h=>by show _=_;rw[hPP.out,evM_someP us h]
     have hji:(j:Int)<((l.length:Nat):Int):=by omega
     unfold maxLen at hc2
     clear hcell hx hvx hvr hPP hdr hDw hfj
     generalize l[j]=lj at *
     generalize C kk lj=Ev at *
     go_wp2_with fail
     refine (CC.out _ _ (below1 _ _) (by first | exact heap_alloc_new _ _ | simp) (by simp)).mono ?_
     rintro e w4 ⟨ht4,⟨u,z,k2,ho,rfl,hv,hM4⟩ | ⟨ho,u,f,hf,rfl⟩⟩
     ·obtain⟨tv,xv,rfl⟩:=hv.iface
      have own4:w4.ownsRow w2.heap.size 74 1 (.slice ad' us.length cap') us.length cu:=owns_keep al.own fun q hq=>ht4.block q (al.row q hq).2 (by have:=(al.row q hq).1;show ¬ q=mb;omega)
      have hsz4:w2.heap.size≤w4.heap.size:=Nat.le_trans hszr ht4.size
      have STH:Hid (∀w6 v' o,_):=fun w6 v' o=>AL.step (w6:=w6) (v':=v') (o:=o) al hD hmb2 ht4 hM4 hv
      obtain⟨hfu2,hk22⟩:=GK.out _ _ ho
      have HM:=GO.out _ _ ho
      have HFU:Aside (∀x∈us++[u],Fine x):=fun x hx=>by
       rcases List.mem_append.1 hx with h | h
       ·exact hfu.out x h
       ·simp at h
        rw[h]
        exact hfu2
      clear CC GK NO GO hv ho hM4 al hfu hfu2
      go_wp2_with (at_builtin;obtain⟨i0,hi,hz0,hz1,hz2⟩:=info_parts Tryz.infoVVal;refine wpList_append_own_at _ rfl _ _ 70 rfl w2.heap.size 74 i0 .nilIface 1 16 underlying70 hi hz0 hz1 hz2 rfl (by decide) _ _ _ rfl (own4.alloc _) ⟨w4.heap.size,0,none⟩ 1 1 [.iface tv xv] rfl rfl (cell_one_new _ _ _) (fun x hx=>by simp at hx;subst hx;rfl) (by unfold maxLen;omega) (by omega) (by simp;omega) ?_;intro v' w6 hown' hgrow hnil hob;clear hi hz0 hz1 hz2)
      go_roundg (l.length-(j+1))
      case measure=>omega
      case rel =>
       obtain⟨ad2,cap2,rfl,al2⟩:=STH.out _ _ _ hown' hgrow hob
       exact⟨j+1,k2,_,_,ad2,cap2,rfl,by go_num,rfl,by omega,(by show _=_;have:=hul.out;simp;omega),by omega,HFU,al2,HM⟩
     ·have HF:Hid (FltV f):=hf
      have HO:Hid (R=none):=NO.out ho
      obtain⟨tf,yf,rfl⟩:=hf.iface
      have ht5:=(T2.trans al.tch).trans ht4
      clear CC GK NO GO hf ho al
      go_wp2_with fail
      go_ret2
      exact cr_no HO.out ht5 HF.out
    ·have hjj:j=l.length:=by omega
     have hji:¬ (j:Int)<((l.length:Nat):Int):=by omega
     have HO:Hid (R=if wtV (.lst us)≤600 then some (.lst us,kk) else none):=by
      have h2:=hPP.out
      rw[hjj,List.drop_length] at h2
      rw[h2]
      show lightL (addL us (some ([],kk)))=_
      simp[addL,lightL]
     have hw:=wtVs_fine us hfu.out
     have hsu:SegAt wr D 74 1 (.slice ad' us.length cap') us.length cu:=(SegAt.of_row (RowAt.of_owns al.own)).weaken fun q hq=>hD2 q (by omega)
     have hvu:VLs wr D us cu:=al.val.weaken fun q hq=>hq.1
     have CN:=newList_any D us _ cu wr hsu hvu (by omega)
     have FIN:Hid (∀X,Below wr.heap.size wr X→crPost D mb fns R w (.returned (.tuple #[.iface 195 (.agg #[.slice ad' us.length cap',.int .i64 ((wtVs us:Nat):Int)]),.nilIface])) X):=fun X hX=>cr_ok (v:=.lst us) (k':=kk) HO.out (by rw[wtV];omega) ((T2.trans al.tch).below_at hX) (VL_lst (hsu.below hX) (hvu.below hX)) (al.mch.below hX)
     generalize wtVs us=W at *
     clear hsu hvu HO hPP hfu hsg2 hvs2 al IH
     subst hjj
     go_wp2_with (go_at_call 143;refine CN.mono ?_;rintro e w5 ⟨rfl,hb5⟩)
     go_ret2
     exact FIN.out _ hb5
 ·obtain⟨TW,_⟩:=TB.out _ ht1
  have HO:Hid (R=none):=EV0.out ho
  have HF:Hid (FltV fl):=hfl
  obtain⟨tf,yf,rfl⟩:=hfl.iface
  clear EV0 EV1 CE TB ho hfl
  go_wp2_with fail
  go_ret2
  exact cr_no HO.out TW HF.out
end
end Go.Proofs.YtifhgjpglicjbaaGreatDoor
