/-
  The program: carryOut's ways: len, binary, set, call.
-/
import Derived.Test.YtliapghpeoaonaaGreatDoorReJ
set_option maxHeartbeats 4000000
set_option maxRecDepth 8000
namespace Go.Proofs.YtliapghpeoaonaaGreatDoor
open Go.Proofs.Tryz
open Go.RowKit Go.Lib
attribute [local go_sem ↓] Go.wp_at_zero Go.wp_at_succ
attribute [local go_sem] Zdi Zdh Zdj Zdf Zde Zdg Zdl Zdk Zdm
theorem light_cr (u:PV)(k:Nat):(Zeg (some u)).map (fun v=>(v,k))=if wtV u≤600 then some (u,k) else none:=by
 unfold Zeg
 split
 ·rename_i v h
  cases h
  split<;>rfl
 ·rename_i h;cases h
theorem light_no (k:Nat):(Zeg none).map (fun v=>(v,k))=none:=rfl
theorem lengV_wt {a v:PV}(h:Zn8 a=some v):wtV v≤1:=by
 cases a with
 | num _=>cases h
 | txt b=>cases h;rw[wtV];exact Nat.le_refl _
 | lst l=>cases h;rw[wtV];exact Nat.le_refl _
theorem set3_wt {a b c v:PV}(h:set3 a b c=some v)(ha:wtV a≤600)(hc:wtV c≤600):wtV v≤2000:=by
 cases a with
 | lst l =>
  cases b with
  | num i =>
   have h2:Zzt l i c=some v:=h
   unfold Zzt at h2
   split at h2
   ·cases h2
    rw[wtV] at ha ⊢
    have:=Zmw c l i.toNat
    omega
   ·cases h2
  | txt _=>cases h
  | lst _=>cases h
 | num _=>cases h
 | txt _=>cases h
theorem op2_wt {wd:List UInt8}{a b v:PV}(h:op2 wd a b=some v)(ha:wtV a≤600)(hb:wtV b≤600):wtV v≤2000:=by
 unfold op2 at h
 split at h
 ·cases h;unfold Z3m;rw[wtV];omega
 split at h
 ·split at h
  ·rename_i l i _ _
   unfold atV at h
   split at h
   ·have:=Zmg (List.mem_of_getElem? h)
    rw[wtV] at ha
    omega
   ·cases h
  ·cases h
 split at h
 ·split at h
  ·cases h
   rw[wtV] at ha hb ⊢
   simp
   omega
  ·cases h
   rw[wtV] at ha hb ⊢
   rw[Zje]
   omega
  ·cases h
 ·split at h
  ·cases h
   unfold Zyi Z3m
   split
   ·rw[wtV];omega
   split
   ·rw[wtV];omega
   split
   ·rw[wtV];omega
   ·rw[wtV];omega
  ·cases h
theorem Zry {D:Nat→Prop}{mb k:Nat}{fns:List Fn}{o:Option PV}{w w1 w':World}{e:Ending}(ht:Zaa (·=mb) w w1)(hM:Zfw w1 mb fns k)(hw:∀v,o=some v→wtV v≤2000)(h:Zcx D w1 o e w'):Zbl D mb fns ((Zeg o).map fun v=>(v,k)) w e w':=by
 obtain⟨hb,⟨v,x,ho,he,hv⟩ | ⟨ho,u,f,hf,he⟩⟩:=h
 ·subst ho
  have:=hw v rfl
  exact⟨ht.below_at hb,Or.inl ⟨v,x,k,light_cr v k,by omega,he,hv,hM.below hb⟩⟩
 ·subst ho
  exact⟨ht.below_at hb,Or.inr ⟨rfl,u,f,hf,he⟩⟩
theorem al_tup {D:Nat→Prop}{mb:Nat}{fns:List Fn}{o:Option (List PV×Nat)}{w w':World}{e:Ending}(h:Zue D mb fns o w e w'):∃u f,e=.returned (.tuple #[u,f]):=by
 obtain⟨_,⟨_,_,_,_,_,h,_⟩ | ⟨_,f,_,h⟩⟩:=h
 ·exact⟨_,_,h⟩
 ·exact⟨_,_,h⟩
theorem al_cases {D:Nat→Prop}{mb:Nat}{fns:List Fn}{o:Option (List PV×Nat)}{w w':World}{u f:Value}(h:Zue D mb fns o w (.returned (.tuple #[u,f])) w'):Zaa (·=mb) w w'∧((∃vs cs k',o=some (vs,k')∧f=.nilIface∧Zar w' D 81 1 u vs.length cs∧VLs w' D vs cs∧Zfw w' mb fns k')∨(o=none∧Zii f∧u=.slice none 0 0)):=by
 obtain⟨a,⟨vs,sl,cs,k',h1,h2,h3,h4,h5⟩ | ⟨h1,f',h2,h3⟩⟩:=h
 ·cases h2
  exact⟨a,Or.inl ⟨vs,cs,k',h1,rfl,h3,h4,h5⟩⟩
 ·cases h3
  exact⟨a,Or.inr ⟨h1,h2,rfl⟩⟩
theorem rowBlk {w:World}{g n mb:Nat}{xs:List Value}(h:w.heap[g]?=some (.cells xs.toArray 141))(hs:xs.length=n)(hm:n≤maxLen)(hg:g≠mb):Zao w (·≠mb) 141 1 (.slice (some ⟨g,0,none⟩) n n) n xs:=by
 refine⟨by omega,Or.inr ⟨g,n,xs.toArray,rfl,hg,h,Nat.le_refl _,hm,by simp[hs],?_⟩⟩
 rw[List.take_of_length_le (by simp[hs])]
theorem blk2 (w:World)(o o':Obj):((w.alloc o).alloc o').heap[w.heap.size+1]?=some o':=by
 rw[show w.heap.size+1=(w.alloc o).heap.size from by simp]
 exact heap_alloc_new _ _
def callR (C:Nat→List PV→Option (PV×Nat)):Option (List PV×Nat)→Option (PV×Nat)
 | none=>none
 | some (vs,k)=>C k vs
def simR (wd:List UInt8):Option (List PV×Nat)→Option (PV×Nat)
 | none=>none
 | some (vs,k)=>(Zeg (Za1 wd vs)).map fun v=>(v,k)
section
variable {mb k0:Nat} {fns:List Fn} {E:Nat→Env→Ex→Option (PV×Nat)}
theorem Z15 (IH:RDo mb fns E k0)(good:Zg2 E)(w:World)(D:Nat→Prop)(k:Nat)(wd:List UInt8)(a:Ex)(sp:Int)(xa:Value)(s:Env)(y:Value)(hk:k≤k0)(hD:¬ D mb)(hD2:∀g,w.heap.size≤g→D g)(hM:Zfw w mb fns k)
  (ha:Zc8 w (·<mb) a xa) (hs:SC w D s y) (pa:XPo fns s a) :
  Calls prog 234 #[.pointer (some ⟨mb,0,none⟩),.agg #[.int .i64 sp,xa],y] w (Zbl D mb fns (simR wd (evL (fun k e=>E k s e) k [a])) w):=by
 obtain⟨R,hR⟩:∃R,R=simR wd (evL (fun k e=>E k s e) k [a]):=⟨_,rfl⟩
 rw[←hR]
 have EV0:Hid (E k s a=none→R=none):=fun h=>by rw[hR,Zt1 h];rfl
 have EV1:Hid (∀v k',E k s a=some (v,k')→R=(Zeg (Zn8 v)).map fun u=>(u,k')):=fun v k' h=>by
  rw[hR]
  simp only[evL,h]
  rfl
 obtain⟨o,rfl⟩:=hs.ptr
 obtain⟨t0,y0,rfl⟩:=ha.iface
 have bX:=Zab w (Obj.cells #[.int .i64 sp,.iface t0 y0] 429)
 have CE:=IH.use good _ D k a _ s _ hk hD (fun g hg=>hD2 g (by simp at hg;omega)) (hM.below bX) (ha.below bX) (hs.below bX) pa
 have TB:Hid (∀X,Zaa (·=mb) (w.alloc (Obj.cells #[.int .i64 sp,.iface t0 y0] 429)) X→Zaa (·=mb) w X):=fun X hX=>(Zaa.of_below bX).trans hX
 clear bX hM hs ha hR
 go_enter func234,ntmps234
 go_wp2_with fail
 refine CE.mono ?_
 rintro e w1 ⟨ht1,⟨v,z,k',ho,rfl,hv,hM1,hk1,hfv⟩ | ⟨ho,u,fl,hfl,rfl⟩⟩
 ·have HE:=EV1.out _ _ ho
  have CL:=Ztr D v z w1 hv hfv.2
  have FIN:Hid (∀X e,Zcx D w1 (Zn8 v) e X→Zbl D mb fns R w e X):=fun X e h=>by
   rw[HE]
   exact Zry (TB.out _ ht1) hM1 (fun u hu=>by have:=lengV_wt hu;omega) h
  obtain⟨tz,yz,rfl⟩:=hv.iface
  clear CE hv hM1 HE EV0 EV1 ho
  go_wp2_with (go_at_call 259;refine CL.mono ?_;rintro e w2 hr2;obtain⟨u2,f2,rfl⟩:=Zpb hr2)
  go_ret2
  exact FIN.out _ _ hr2
 ·have TW:=TB.out _ ht1
  have HO:Hid (R=none):=EV0.out ho
  have HF:Hid (Zii fl):=hfl
  obtain⟨tf,yf,rfl⟩:=hfl.iface
  clear CE hfl EV0 EV1 ho
  go_wp2_with fail
  go_ret2
  exact Zk7 HO.out TW HF.out
def Z3q (D:Nat→Prop)(mb:Nat)(fns:List Fn)(L:Option (List PV×Nat))(n k:Nat)(u f:Value)(w1:World):Prop :=
 (∃vs cs k',L=some (vs,k')∧f=.nilIface∧vs.length=n∧(∀v∈vs,Zec v)∧Zar w1 D 81 1 u n cs∧VLs w1 D vs cs∧Zfw w1 mb fns k'∧k'≤k)∨(L=none∧Zii f∧u=.slice none 0 0)
theorem Zxd:∀{es:List Ex},(∀e∈es,Zjd e)→Zer es
 | [],_=>by rw[Zer];trivial
 | e::es,h=>by rw[Zer];exact⟨h e (by simp),Zxd fun x hx=>h x (by simp[hx])⟩
theorem Zr5 (IH:RDo mb fns E k0)(good:Zg2 E)(w:World)(D:Nat→Prop)(k:Nat)(es:List Ex)(xs:List Value)(s:Env)(y:Value)(hk:k≤k0)(hD:¬ D mb)(hD2:∀g,w.heap.size≤g→D g)(hM:Zfw w mb fns k)
  (hrep:Zbj w (·<mb) es xs) (hs:SC w D s y) (hx:∀e∈es,XPo fns s e) (hsf:Zgj s) (hl:es.length≤7000) (Z:World) (sl:Value) (hZ:Below w.heap.size w Z) (hrow:Zao Z (·≠mb) 141 1 sl es.length xs) :
  Calls prog 230 #[.pointer (some ⟨mb,0,none⟩),y,sl] Z fun e w'=>∃u f,e=.returned (.tuple #[u,f])∧Zaa (·=mb) Z w'∧Z3q D mb fns (evL (fun k e=>E k s e) k es) es.length k u f w':=by
 refine (all_of IH good Z D k es xs sl s y hk hD (fun g hg=>hD2 g (by have:=hZ.size;omega)) (hM.below hZ) hrow ((hrep.keep fun q _ hlt=>hZ.block q hlt).weaken fun q hq=>hq.1) (hs.below hZ) hx hl).mono fun e w' h=>?_
 obtain⟨a,⟨vs,sl',cs,k',h1,h2,h3,h4,h5⟩ | ⟨h1,f',h2,h3⟩⟩:=h
 ·obtain⟨g1,g2,g3⟩:=Zrv good hsf es k vs k' (Zxd fun e he=>(hx e he).lit) h1
  exact⟨_,_,h2,a,Or.inl ⟨vs,cs,k',h1,rfl,g2,g1,by rw[←g2];exact h3,h4,h5,g3⟩⟩
 ·exact⟨_,_,h3,a,Or.inr ⟨h1,h2,rfl⟩⟩
theorem Z3n (IH:RDo mb fns E k0)(good:Zg2 E)(w:World)(D:Nat→Prop)(k:Nat)(wd:List UInt8)(a b:Ex)(sp:Int)(ob:ByteArray)(xa xb:Value)(s:Env)(y:Value)(hk:k≤k0)(hD:¬ D mb)(hD2:∀g,w.heap.size≤g→D g)(hM:Zfw w mb fns k)(hsh:Za3 wd=some (false,2))(hob:ob.data.toList=wd)
  (hrep:Zbj w (·<mb) [a,b] [xa,xb]) (hs:SC w D s y) (hx:∀e∈[a,b],XPo fns s e) (hsf:Zgj s) :
  Calls prog 233 #[.pointer (some ⟨mb,0,none⟩),.agg #[.int .i64 sp,.string ob,xa,xb],y] w (Zbl D mb fns (simR wd (evL (fun k e=>E k s e) k [a,b])) w):=by
 obtain⟨R,hR⟩:∃R,R=simR wd (evL (fun k e=>E k s e) k [a,b]):=⟨_,rfl⟩
 rw[←hR]
 have hmb:=hM.lt
 obtain⟨o,rfl⟩:=hs.ptr
 obtain⟨ta,ya,rfl⟩:=(hrep.at 0 (by simp) (by simp)).iface
 obtain⟨tb,yb,rfl⟩:=(hrep.at 1 (by simp) (by simp)).iface
 have bX:=Zab w (Obj.cells #[.int .i64 sp,.string ob,.iface ta ya,.iface tb yb] 427)
 have q1:(w.alloc (Obj.cells #[.int .i64 sp,.string ob,.iface ta ya,.iface tb yb] 427)).cell? ⟨w.heap.size,1,none⟩=some (.string ob):=by simp
 have q2:(w.alloc (Obj.cells #[.int .i64 sp,.string ob,.iface ta ya,.iface tb yb] 427)).cell? ⟨w.heap.size,2,none⟩=some (.iface ta ya):=by simp
 have q3:(w.alloc (Obj.cells #[.int .i64 sp,.string ob,.iface ta ya,.iface tb yb] 427)).cell? ⟨w.heap.size,3,none⟩=some (.iface tb yb):=by simp
 have CA:Hid (∀(Z:World) (g:Nat),Below w.heap.size w Z→Z.cell? ⟨w.heap.size,1,none⟩=some (.string ob)→Z.heap[g]?=some (.cells #[.iface ta ya,.iface tb yb] 141)→w.heap.size≤g→Calls prog 230 #[.pointer (some ⟨mb,0,none⟩),.pointer o,.slice (some ⟨g,0,none⟩) 2 2] Z fun e w'=>∃u f,e=.returned (.tuple #[u,f])∧Zaa (·=mb) w w'∧w'.cell? ⟨w.heap.size,1,none⟩=some (.string ob)∧Hid (Z3q D mb fns (evL (fun k e=>E k s e) k [a,b]) 2 k u f w')):=fun Z g hZ hc hg hge=>by
  refine (Zr5 IH good w D k [a,b] _ s _ hk hD hD2 hM hrep hs hx hsf (by simp) Z _ hZ (rowBlk (n:=2) hg rfl (by decide) (by omega))).mono fun e w' ⟨u,f,h1,h2,h3⟩=>⟨u,f,h1,(Zaa.of_below hZ).trans h2,h2.cell hc (by show ¬ w.heap.size=mb;omega),h3⟩
 have EV0:Hid (evL (fun k e=>E k s e) k [a,b]=none→R=none):=fun h=>by rw[hR,h];rfl
 have EV1:Hid (∀v0 v1 k',evL (fun k e=>E k s e) k [a,b]=some ([v0,v1],k')→R=(Zeg (op2 wd v0 v1)).map fun u=>(u,k')):=fun v0 v1 k' h=>by rw[hR,h];rfl
 clear hM hs hrep hx IH hR q2 q3
 go_enter func233,ntmps233
 go_wp2_with fail
 refine (CA.out _ _ (bX.alloc bX.size _) (Zac q1) (blk2 _ _ _) (by simp)).mono ?_
 rintro e w1 ⟨u1,f1,rfl,ht1,c1,hr1⟩
 clear CA bX q1
 obtain⟨vs,cs,k',hL,rfl,hvl,hfi,hseg,hvs,hM1,hk1⟩ | ⟨hL,hf,rfl⟩:=hr1.out
 ·obtain⟨v0,v1,rfl⟩:∃v0 v1,vs=[v0,v1]:=by
   match vs,hvl with
   | [v0,v1],_=>exact⟨v0,v1,rfl⟩
  obtain⟨x0,hx0,hv0⟩:=hvs.at 0 (by simp)
  obtain⟨x1,hx1,hv1⟩:=hvs.at 1 (by simp)
  have hz:=ht1.size
  have f0:=(hfi v0 (by simp)).2
  have f1:=(hfi v1 (by simp)).2
  have HE:=EV1.out _ _ _ hL
  have CO:Hid (∀X,Below w1.heap.size w1 X→Calls prog 258 #[.string ob,x0,x1] X fun e w'=>(∃u f,e=.returned (.tuple #[u,f]))∧Zbl D mb fns R w e w'):=fun X hX=>(Zvd D wd ob v0 v1 x0 x1 X hsh hob (hv0.below hX) (hv1.below hX) f0 f1 (fun g hg=>hD2 g (by have:=hX.size;omega))).mono fun e w' h=>⟨Zpb h,by
   rw[HE]
   exact Zry (ht1.below_at hX) (hM1.below hX) (fun v hv=>op2_wt hv f0 f1) h⟩
  obtain⟨g,o,cp,rfl,_,hc1,hc2,hcell⟩:=hseg.cell (by omega)
  obtain⟨t0,y0,rfl⟩:=hv0.iface
  obtain⟨t1,y1,rfl⟩:=hv1.iface
  have c2:w1.cell? ⟨g,o,none⟩=some (.iface t0 y0):=by
   have:=hcell 0 (by omega)
   rw[hx0] at this
   exact this
  have c3:w1.cell? ⟨g,o+1,none⟩=some (.iface t1 y1):=by rw[hcell 1 (by omega),hx1]
  unfold maxLen at hc2
  clear hr1 EV0 EV1 hL hfi hseg hvs hM1 HE hcell hv0 hv1 hx0 hx1 hsf
  go_wp2_with fail
  go_region_with (go_at_call 258;go_loud (refine (CO.out _ (by first | exact Below.refl _ _ | exact (Below.refl _ _).drew)).mono ?_;rintro e w2 ⟨⟨u2,f2,rfl⟩,hr2⟩))
  all_goals (go_wp2_with fail)
  all_goals (go_ret2;exact hr2)
 ·have HO:Hid (R=none):=EV0.out hL
  have HF:Hid (Zii f1):=hf
  obtain⟨tf,yf,rfl⟩:=hf.iface
  clear hr1 EV0 EV1 hL hf
  go_wp2_with fail
  go_ret2
  exact Zk7 HO.out ht1 HF.out
theorem set_of (IH:RDo mb fns E k0)(good:Zg2 E)(w:World)(D:Nat→Prop)(k:Nat)(wd:List UInt8)(a b c:Ex)(sp:Int)(xa xb xc:Value)(s:Env)(y:Value)(hk:k≤k0)(hD:¬ D mb)(hD2:∀g,w.heap.size≤g→D g)(hM:Zfw w mb fns k)
  (hrep:Zbj w (·<mb) [a,b,c] [xa,xb,xc]) (hs:SC w D s y) (hx:∀e∈[a,b,c],XPo fns s e) (hsf:Zgj s) :
  Calls prog 235 #[.pointer (some ⟨mb,0,none⟩),.agg #[.int .i64 sp,xa,xb,xc],y] w (Zbl D mb fns (simR wd (evL (fun k e=>E k s e) k [a,b,c])) w):=by
 obtain⟨R,hR⟩:∃R,R=simR wd (evL (fun k e=>E k s e) k [a,b,c]):=⟨_,rfl⟩
 rw[←hR]
 have hmb:=hM.lt
 obtain⟨o,rfl⟩:=hs.ptr
 obtain⟨ta,ya,rfl⟩:=(hrep.at 0 (by simp) (by simp)).iface
 obtain⟨tb,yb,rfl⟩:=(hrep.at 1 (by simp) (by simp)).iface
 obtain⟨tc,yc,rfl⟩:=(hrep.at 2 (by simp) (by simp)).iface
 have bX:=Zab w (Obj.cells #[.int .i64 sp,.iface ta ya,.iface tb yb,.iface tc yc] 424)
 have CA:Hid (∀(Z:World) (g:Nat),Below w.heap.size w Z→Z.heap[g]?=some (.cells #[.iface ta ya,.iface tb yb,.iface tc yc] 141)→w.heap.size≤g→Calls prog 230 #[.pointer (some ⟨mb,0,none⟩),.pointer o,.slice (some ⟨g,0,none⟩) 3 3] Z fun e w'=>∃u f,e=.returned (.tuple #[u,f])∧Zaa (·=mb) w w'∧Hid (Z3q D mb fns (evL (fun k e=>E k s e) k [a,b,c]) 3 k u f w')):=fun Z g hZ hg hge=>by
  refine (Zr5 IH good w D k [a,b,c] _ s _ hk hD hD2 hM hrep hs hx hsf (by simp) Z _ hZ (rowBlk (n:=3) hg rfl (by decide) (by omega))).mono fun e w' ⟨u,f,h1,h2,h3⟩=>⟨u,f,h1,(Zaa.of_below hZ).trans h2,h3⟩
 have EV0:Hid (evL (fun k e=>E k s e) k [a,b,c]=none→R=none):=fun h=>by rw[hR,h];rfl
 have EV1:Hid (∀v0 v1 v2 k',evL (fun k e=>E k s e) k [a,b,c]=some ([v0,v1,v2],k')→R=(Zeg (set3 v0 v1 v2)).map fun u=>(u,k')):=fun v0 v1 v2 k' h=>by rw[hR,h];rfl
 clear hM hs hrep hx IH hR
 go_enter func235,ntmps235
 go_wp2_with fail
 refine (CA.out _ _ (bX.alloc bX.size _) (blk2 _ _ _) (by simp)).mono ?_
 rintro e w1 ⟨u1,f1,rfl,ht1,hr1⟩
 clear CA bX
 obtain⟨vs,cs,k',hL,rfl,hvl,hfi,hseg,hvs,hM1,hk1⟩ | ⟨hL,hf,rfl⟩:=hr1.out
 ·obtain⟨v0,v1,v2,rfl⟩:∃v0 v1 v2,vs=[v0,v1,v2]:=by
   match vs,hvl with
   | [v0,v1,v2],_=>exact⟨v0,v1,v2,rfl⟩
  obtain⟨x0,hx0,hv0⟩:=hvs.at 0 (by simp)
  obtain⟨x1,hx1,hv1⟩:=hvs.at 1 (by simp)
  obtain⟨x2,hx2,hv2⟩:=hvs.at 2 (by simp)
  have hz:=ht1.size
  have f0:=(hfi v0 (by simp)).2
  have f2:=(hfi v2 (by simp)).2
  have HE:=EV1.out _ _ _ _ hL
  have CO:Hid (∀X,Below w1.heap.size w1 X→Calls prog 260 #[x0,x1,x2] X fun e w'=>(∃u f,e=.returned (.tuple #[u,f]))∧Zbl D mb fns R w e w'):=fun X hX=>(Zsy D v0 v1 v2 x0 x1 x2 X (hv0.below hX) (hv1.below hX) (hv2.below hX) f0 f2 (fun g hg=>hD2 g (by have:=hX.size;omega))).mono fun e w' h=>⟨Zpb h,by
   rw[HE]
   exact Zry (ht1.below_at hX) (hM1.below hX) (fun v hv=>set3_wt hv f0 f2) h⟩
  obtain⟨g,o,cp,rfl,_,hc1,hc2,hcell⟩:=hseg.cell (by omega)
  obtain⟨t0,y0,rfl⟩:=hv0.iface
  obtain⟨t1,y1,rfl⟩:=hv1.iface
  obtain⟨t2,y2,rfl⟩:=hv2.iface
  have c2:w1.cell? ⟨g,o,none⟩=some (.iface t0 y0):=by
   have:=hcell 0 (by omega)
   rw[hx0] at this
   exact this
  have c3:w1.cell? ⟨g,o+1,none⟩=some (.iface t1 y1):=by rw[hcell 1 (by omega),hx1]
  have c4:w1.cell? ⟨g,o+2,none⟩=some (.iface t2 y2):=by rw[hcell 2 (by omega),hx2]
  unfold maxLen at hc2
  clear hr1 EV0 EV1 hL hfi hseg hvs hM1 HE hcell hv0 hv1 hv2 hx0 hx1 hx2 hsf
  go_wp2_with fail
  go_region_with (go_at_call 260;go_loud (refine (CO.out _ (by first | exact Below.refl _ _ | exact (Below.refl _ _).drew)).mono ?_;rintro e w2 ⟨⟨u2,f2,rfl⟩,hr2⟩))
  all_goals (go_wp2_with fail)
  all_goals (go_ret2;exact hr2)
 ·have HO:Hid (R=none):=EV0.out hL
  have HF:Hid (Zii f1):=hf
  obtain⟨tf,yf,rfl⟩:=hf.iface
  clear hr1 EV0 EV1 hL hf
  go_wp2_with fail
  go_ret2
  exact Zk7 HO.out ht1 HF.out
theorem Zv1 (hP:Ze1 fns)(IH:RDo mb fns E k0)(good:Zg2 E)(w:World)(D:Nat→Prop)(k:Nat)(n:List UInt8)(ks:List Ex)(xs:List Value)(sp pl:Int)(nb:ByteArray)(ad:Option Addr)(cap:Nat)(s:Env)(y:Value)(hk:k≤k0)(hD:¬ D mb)(hD2:∀g,w.heap.size≤g→D g)(hM:Zfw w mb fns k)(hnb:nb.data.toList=n)(hfn:Zxf fns n ks.length)
  (hrep:Zbj w (·<mb) ks xs) (hrow:Zao w (·<mb) 141 1 (.slice ad ks.length cap) ks.length xs) (hs:SC w D s y) (hx:∀e∈ks,XPo fns s e) (hsf:Zgj s) (hl:ks.length≤7000) :
  Calls prog 236 #[.pointer (some ⟨mb,0,none⟩),.agg #[.int .i64 sp,.string nb,.int .i64 pl,.slice ad ks.length cap],y] w (Zbl D mb fns (callR (fun k vs=>evC E fns k n vs) (evL (fun k e=>E k s e) k ks)) w):=by
 obtain⟨R,hR⟩:∃R,R=callR (fun k vs=>evC E fns k n vs) (evL (fun k e=>E k s e) k ks):=⟨_,rfl⟩
 rw[←hR]
 have hmb:=hM.lt
 obtain⟨o,rfl⟩:=hs.ptr
 have bX:=Zab w (Obj.cells #[.int .i64 sp,.string nb,.int .i64 pl,.slice ad ks.length cap] 414)
 have q1:(w.alloc (Obj.cells #[.int .i64 sp,.string nb,.int .i64 pl,.slice ad ks.length cap] 414)).cell? ⟨w.heap.size,1,none⟩=some (.string nb):=by simp
 have CA:=Zr5 IH good w D k ks xs s _ hk hD hD2 hM hrep hs hx hsf hl _ _ bX ((Zai hrow bX).weaken fun g hg=>by have hg:g<mb:=hg;show g≠mb;omega)
 have CC:Hid (∀(w1:World) (vs:List PV) (cs:List Value) (u:Value) (k':Nat),Zaa (·=mb) (w.alloc (Obj.cells #[.int .i64 sp,.string nb,.int .i64 pl,.slice ad ks.length cap] 414)) w1→evL (fun k e=>E k s e) k ks=some (vs,k')→vs.length=ks.length→(∀v∈vs,Zec v)→Zar w1 D 81 1 u ks.length cs→VLs w1 D vs cs→Zfw w1 mb fns k'→k'≤k→w1.cell? ⟨w.heap.size,1,none⟩=some (.string nb)∧Calls prog 105 #[.pointer (some ⟨mb,0,none⟩),.string nb,u] w1 fun e w'=>(∃u f,e=.returned (.tuple #[u,f]))∧Zbl D mb fns R w e w'):=fun w1 vs cs u k' ht hL hvl hfi hseg hvs hM1 hk1=>by
  have hz:=ht.size
  simp at hz
  refine⟨ht.cell q1 (by show ¬ w.heap.size=mb;omega),?_⟩
  rw[←hvl] at hseg hfn
  refine (Zv0 hP IH w1 D k' nb vs cs u (by omega) hD (fun g hg=>hD2 g (by omega)) hM1 hseg hvs hfi (by omega)).mono fun e w' h=>⟨Zps h,?_⟩
  have hRe:R=Zy8 E fns k' nb.data.toList vs:=by
   rw[hR,hL,hnb,Zvw hfn]
   rfl
  rw[hRe]
  refine Zms ((Zaa.of_below bX).trans ht) (fun v k2 h2=>?_) h
  rw[hnb,Zvw hfn] at h2
  exact (Zka good hP.lit hfi h2).1.2
 have CN:Hid (∀w1,Zaa (·=mb) (w.alloc (Obj.cells #[.int .i64 sp,.string nb,.int .i64 pl,.slice ad ks.length cap] 414)) w1→evL (fun k e=>E k s e) k ks=none→Zaa (·=mb) w w1∧R=none):=fun w1 ht hL=>⟨(Zaa.of_below bX).trans ht,by rw[hR,hL];rfl⟩
 clear hM hs hrep hx IH hR hrow bX
 go_enter func236,ntmps236
 go_wp2_with fail
 refine CA.mono ?_
 rintro e w1 ⟨u1,f1,rfl,ht1,⟨vs,cs,k',hL,rfl,hvl,hfi,hseg,hvs,hM1,hk1⟩ | ⟨hL,hf,rfl⟩⟩
 ·obtain⟨c1,C2⟩:=CC.out w1 vs cs u1 k' ht1 hL hvl hfi hseg hvs hM1 hk1
  obtain⟨ua,uc,rfl⟩:=hseg.slice
  clear CA CC CN hL hvl hfi hseg hvs hM1
  go_wp2_with (go_at_call 105;refine C2.mono ?_;rintro e w2 ⟨⟨u2,f2,rfl⟩,hr2⟩)
  go_ret2
  exact hr2
 ·obtain⟨TW,HO'⟩:=CN.out _ ht1 hL
  have HO:Hid (R=none):=HO'
  have HF:Hid (Zii f1):=hf
  obtain⟨tf,yf,rfl⟩:=hf.iface
  clear CA CC CN hL hf HO'
  go_wp2_with fail
  go_ret2
  exact Zk7 HO.out TW HF.out
end
end Go.Proofs.YtliapghpeoaonaaGreatDoor
