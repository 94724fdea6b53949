/-
  The reference: reckoning an expr: if.
-/
import Derived.Test.YtliapghpeoaonaaGreatDoorRvX
set_option maxHeartbeats 8000000
set_option maxRecDepth 8000
namespace Go.Proofs.YtliapghpeoaonaaGreatDoor
open Go.Proofs.Tryz
open Go.RowKit Go.Lib
attribute [local go_sem ↓] Go.wp_at_zero Go.wp_at_succ
structure XOk (fns:List Fn)(ns:List ByteArray)(vs:List PV)(k:Nat)(e:Ex):Prop where
 len:ns.length=vs.length
 fine:∀v∈vs,Zec v
 bnd:ns.length+k≤60000
 lit:Zjd e
 wf:WfE e
 sz:szE e≤7000
 sc:∃sc,(∀n∈sc,n∈ns.map (·.data.toList))∧ScE fns sc e
def XE (w0:World)(rb prb:Nat)(fv pv:Value)(fs:List Ze8)(ps:List Zaw)(fns:List Fn)(E:Nat→Env→Ex→Option (PV×Nat))(k:Nat):Prop :=
 ∀(X:World) (D:Nat→Prop) (k':Nat) (e:Ex) (i:Nat) (ns:List ByteArray) (vs:List PV) (x:Value),k'≤k→¬ D rb→(∀g,X.heap.size≤g→D g)→Zht w0 rb prb fv pv fs ps fns X→RK X rb prb k'→RS X D ns vs x→Ze0 w0 (fun _=>True) ps 0 e i→XOk fns ns vs k' e →
  Calls prog 125 #[.pointer (some ⟨rb,0,none⟩),.int .i64 ((i:Nat):Int),x] X (Zct rb prb D (E k' (Zds ns vs) e) X)
structure XF (w X:World)(rb:Nat)(so po:Obj):Prop where
 tw:Zaa (·=rb) w X
 b0:X.heap[w.heap.size]?=some so
 b1:X.heap[w.heap.size+1]?=some Zaz
 b2:X.heap[w.heap.size+1+1]?=some po
theorem XF.lt {w X:World}{rb:Nat}{so po:Obj}(h:XF w X rb so po):w.heap.size+1+1<X.heap.size:=Zag h.b2
theorem XF.start (w:World)(rb:Nat)(v:Value)(so po:Obj):XF w ((((w.setCell ⟨rb,1,none⟩ v).alloc so).alloc Zaz).alloc po) rb so po:=by
 have hz:(w.setCell ⟨rb,1,none⟩ v).heap.size=w.heap.size:=Ze5 _ _ _
 refine⟨((((Zaa.refl (·=rb) w).setCell (p:=⟨rb,1,none⟩) (Or.inl rfl) _).alloc _).alloc _).alloc _,?_,?_,?_⟩
 ·rw[Za0 _ _ _ (by simp[hz];omega),Za0 _ _ _ (by simp[hz])]
  have:=heap_alloc_new (w.setCell ⟨rb,1,none⟩ v) so
  rw[hz] at this
  exact this
 ·rw[Za0 _ _ _ (by simp[hz])]
  have:=heap_alloc_new ((w.setCell ⟨rb,1,none⟩ v).alloc so) Zaz
  simpa[hz] using this
 ·have:=heap_alloc_new (((w.setCell ⟨rb,1,none⟩ v).alloc so).alloc Zaz) po
  simpa[hz] using this
theorem XF.touch {w X Y:World}{rb:Nat}{so po:Obj}(h:XF w X rb so po)(hr:rb<w.heap.size)(ht:Zaa (·=rb) X Y):XF w Y rb so po:=by
 have lt:=h.lt
 exact⟨h.tw.trans ht,by rw[ht.block _ (by omega) (by omega)];exact h.b0,by rw[ht.block _ (by omega) (by omega)];exact h.b1,by rw[ht.block _ (by omega) (by omega)];exact h.b2⟩
theorem XF.cells {w X:World}{rb:Nat}{a b c0 c1 c2 c3 c4:Value}(h:XF w X rb (Zbr a b) (.cells #[c0,c1,c2,c3,c4] 322)):(X.cell? ⟨w.heap.size,0,none⟩=some a∧X.cell? ⟨w.heap.size,1,none⟩=some b)∧(X.cell? ⟨w.heap.size+1+1,0,none⟩=some c0∧X.cell? ⟨w.heap.size+1+1,1,none⟩=some c1∧X.cell? ⟨w.heap.size+1+1,2,none⟩=some c2∧X.cell? ⟨w.heap.size+1+1,3,none⟩=some c3∧X.cell? ⟨w.heap.size+1+1,4,none⟩=some c4):=by
 obtain⟨x0,x1,_⟩:=Zd2 h.b0
 have hb:=h.b2
 refine⟨⟨x0,x1⟩,?_,?_,?_,?_,?_⟩<;>(unfold World.cell?;rw[hb];rfl)
theorem Zqc {rb prb:Nat}{D:Nat→Prop}{O O':Option (PV×Nat)}(ho:O'=O){w w2:World}{B:Nat}{k z:Int}{s:ByteArray}{ad:Option Addr}{n c:Nat}{b:Bool}(h:XR rb prb (fun g=>D g∧g≠B) O w2 k z s ad n c b)(ht:Zaa (·=rb) w w2)(hB:w.heap.size≤B)(hr:rb≠B):Zct rb prb D O' w (.returned (.tuple #[.agg #[.int .u8 k,.int .i64 z,.string s,.slice ad n c],.bool b])) ((((w2.setCell ⟨B,0,none⟩ (.int .u8 k)).setCell ⟨B,1,none⟩ (.int .i64 z)).setCell ⟨B,2,none⟩ (.string s)).setCell ⟨B,3,none⟩ (.slice ad n c)):=by
 subst ho
 cases O' with
 | none =>
  obtain rfl:b=false:=h
  exact Zdv rfl (Zcf ht hB _ _ _ _)
 | some o =>
  obtain⟨v,k1⟩:=o
  obtain⟨rfl,h2,h3⟩:=h
  exact Zgo rfl (Zcf ht hB _ _ _ _) ((h2.res (b:=B) (fun g hg=>hg.2) _ _ _ _).weaken fun g hg=>hg.1) (h3.same (Zej _ _ _ _ _ _ rb hr))
def EqX (wr X:World):Prop:=X.os=wr.os∧X.tape=wr.tape∧X.output=wr.output∧X.heap=wr.heap
theorem EqX.below {wr X:World}(h:EqX wr X):Below wr.heap.size wr X:=Zlc.below ⟨h.1,h.2.1,h.2.2.1,Or.inl h.2.2.2⟩
theorem EqX.touch {wr X:World}{rb:Nat}(h:EqX wr X):Zaa (·=rb) wr X:=Zaa.of_below h.below
theorem Zgc {w:World}{D:Nat→Prop}{ps:List Zaw}{lo:Nat}{e:Ex}{es:List Ex}{j:Nat}{js:List Nat}(h:Zby w D ps lo (e::es) (j::js)):Ze0 w D ps lo e j∧Zby w D ps lo es js:=by
 rw[Zby] at h
 obtain⟨j',r,e1,h1,h2⟩:=h
 simp only[List.cons.injEq] at e1
 obtain⟨rfl,rfl⟩:=e1
 exact⟨h1,h2⟩
theorem Z0n {w:World}{D:Nat→Prop}{e:TypeId}{size g n c:Nat}{xs:List Value}(h:Zao w D e size (.slice (some ⟨g,0,none⟩) n c) n xs)(_hn:0<n):g<w.heap.size:=by
 rcases h.2 with ⟨h1,_⟩ | ⟨g',c',cur,h1,_,hh,_⟩
 ·cases h1
 ·cases h1
  exact Zag hh
section
variable {w0 w:World} {rb prb:Nat} {fv pv:Value} {fs:List Ze8} {ps:List Zaw} {fns:List Fn}
theorem rx_if (D:Nat→Prop)(hDr:¬ D rb)(hDn:∀g,w.heap.size≤g→D g)(hS:Zht w0 rb prb fv pv fs ps fns w){k:Nat}(hR:RK w rb prb (k+1))(i:Nat)(p:Zaw)(hp:ps[i]?=some p)(js:List Nat)(hkv:Zao w0 (fun _=>True) 3 1 p.kv js.length (js.map fun j:Nat=>Value.int .i64 (j:Int)))(hjl:js.length=3)(ns:List ByteArray)(vs:List PV)(x:Value)(hx:RS w D ns vs x)(ho:p.op.data.toList=[105,102])(ec et ee:Ex)(hrep:Zby w0 (fun _=>True) ps 0 [ec,et,ee] js)(E:Nat→Env→Ex→Option (PV×Nat))(hX:XE w0 rb prb fv pv fs ps fns E k)(hok:∀e∈[ec,et,ee],∀k'≤k,XOk fns ns vs k' e)(hE:∀k' v k'',k'≤k→E k' (Zds ns vs) ec=some (v,k'')→k''≤k'):
  Calls prog 125 #[.pointer (some ⟨rb,0,none⟩),.int .i64 ((i:Nat):Int),x] w (Zct rb prb D (Zrw (fun k e=>E k (Zds ns vs) e) k [ec,et,ee]) w):=by
 have hx0:=hx
 obtain⟨nsl,vsl,xcs,rfl,hx2,hx3,hx4,hx5⟩:=hx0
 obtain⟨nad,nc,h1⟩:=hx2.slice
 obtain⟨vad,vc,h2⟩:=hx3.slice
 obtain⟨st,hst,r0,r1,rf,lr,hset⟩:=hR.facts
 have hk:=hR.hk
 have hsa:0≤st:=by omega
 have hsb:st≤19999:=by omega
 have HST:Aside (RK (w.setCell ⟨rb,1,none⟩ (.int .i64 (st+1))) rb prb k):=hset (st+1) k (by omega) (by omega)
 clear hset hst
 have pm:=hS.pm'
 have c6:=pm.c6
 obtain⟨g,c',rfl,hc1,hc2,hi,k0,k1,k2,k3,k4⟩:=Zc4 pm hp
 have hkvW:=Zai hkv hS.hb
 obtain⟨gk,ck,ekv,_,hk1,hk2,hkc⟩:=hkv.cell (by rw[hjl];omega)
 have lgk:gk<w0.heap.size:=Z0n (ekv ▸ hkv) (by omega)
 obtain⟨gk',ck',ekv',_,hkk1,hkk2,hkcw⟩:=hkvW.cell (by rw[hjl];omega)
 rw[ekv] at ekv'
 simp only[Value.slice.injEq,Option.some.injEq,Addr.mk.injEq,and_true,true_and] at ekv'
 obtain⟨rfl,rfl⟩:=ekv'
 rw[ekv,hjl] at k4
 have lg:=Zae k0
 have lp:=Zae c6
 simp only at lg lp
 have hlt0:g<w0.heap.size:=by
  have h0:=Zc4 hS.pm hp
  obtain⟨g',c2,e,_,_,_,q0,_⟩:=h0
  simp only[Value.slice.injEq,Option.some.injEq,Addr.mk.injEq,and_true,true_and] at e
  obtain⟨rfl,_⟩:=e
  have:=Zae q0
  simpa using this
 have hlp0:prb<w0.heap.size:=by have:=Zae hS.pm.c6;simpa using this
 have hr:=hS.hr
 have hf:=pm.hp
 have hsz:=hS.hb.size
 subst h1 h2
 clear hx2 hx3 hx4 hx5
 have f1:=rf 1
 have n0:w.heap.size≠rb:=by omega
 have n1:w.heap.size+1≠rb:=by omega
 have n2:w.heap.size≠g:=by omega
 have n3:w.heap.size+1≠g:=by omega
 have n4:w.heap.size≠prb:=by omega
 have n5:w.heap.size+1≠prb:=by omega
 have n6:rb≠g:=by omega
 have n7:rb≠prb:=by omega
 have n8:g≠rb:=by omega
 have n9:prb≠rb:=by omega
 have m1:rb≠gk:=by omega
 have m2:gk≠rb:=by omega
 unfold maxLen at hc2
 generalize p.op=op at *
 generalize p.n=pn at *
 generalize p.s=psx at *
 generalize p.at_=pa at *
 obtain⟨j0,j1,j2,rfl⟩:∃j0 j1 j2,js=[j0,j1,j2]:=by
  match js,hjl with
  | [a,b,c],_=>exact⟨a,b,c,rfl⟩
 obtain⟨rep0,hrep⟩:=Zgc hrep
 obtain⟨rep1,hrep⟩:=Zgc hrep
 obtain⟨rep2,_⟩:=Zgc hrep
 have kc0:w.cell? ⟨gk,0,none⟩=some (.int .i64 ((j0:Nat):Int)):=by rw[hkcw 0 (by simp)];rfl
 have kc1:w.cell? ⟨gk,1,none⟩=some (.int .i64 ((j1:Nat):Int)):=by rw[hkcw 1 (by simp)];rfl
 have kc2:w.cell? ⟨gk,2,none⟩=some (.int .i64 ((j2:Nat):Int)):=by rw[hkcw 2 (by simp)];rfl
 rw[Zeo ho] at k0
 have hkk1':3≤ck:=by simpa using hkk1
 have hkk2':ck≤9223372036854775807:=by unfold maxLen at hkk2;omega
 have xf:=XF.start w rb (.int .i64 (st+1)) (Zbr (.slice nad ns.length nc) (.slice vad vs.length vc)) (.cells #[.string ⟨#[105,102]⟩,.int .i64 pn,.string psx,.int .i64 ((pa:Nat):Int),.slice (some ⟨gk,0,none⟩) 3 ck] 322)
 have hkw:RK ((((w.setCell ⟨rb,1,none⟩ (.int .i64 (st+1))).alloc (Zbr (.slice nad ns.length nc) (.slice vad vs.length vc))).alloc Zaz).alloc (.cells #[.string ⟨#[105,102]⟩,.int .i64 pn,.string psx,.int .i64 ((pa:Nat):Int),.slice (some ⟨gk,0,none⟩) 3 ck] 322)) rb prb k:=((HST.out.below (Zab _ _)).below (Zab _ _)).below (Zab _ _)
 clear hkv hkvW hkc hkcw hkk1 hkk2 hk1 hk2 ekv hrep pm HST hR
 go_enter func125,ntmps125
 go_upto_region 14 with fail
 generalize hW:((((w.setCell ⟨rb,1,none⟩ (.int .i64 (st+1))).alloc (Zbr (.slice nad ns.length nc) (.slice vad vs.length vc))).alloc Zaz).alloc (.cells #[.string ⟨#[105,102]⟩,.int .i64 pn,.string psx,.int .i64 ((pa:Nat):Int),.slice (some ⟨gk,0,none⟩) 3 ck] 322))=wr at *
 obtain⟨⟨s0,s1⟩,t0,t1,t2,t3,t4⟩:=xf.cells
 have ltr:=xf.lt
 have kd0:=xf.tw.cell kc0 m2
 have kd1:=xf.tw.cell kc1 m2
 have hrw:rb<wr.heap.size:=by omega
 have nrw:wr.heap.size≠rb:=by omega
 have hgw:gk<wr.heap.size:=by omega
 have ngw:wr.heap.size≠gk:=by omega
 have ngv:gk≠wr.heap.size:=by omega
 have nw0:wr.heap.size≠w.heap.size:=by omega
 have nv0:w.heap.size≠wr.heap.size:=by omega
 have nw2:wr.heap.size≠w.heap.size+1+1:=by omega
 have nv2:w.heap.size+1+1≠wr.heap.size:=by omega
 have lw0:w.heap.size<wr.heap.size:=by omega
 have CX:∀X:World,Zlc wr X→Calls prog 125 #[.pointer (some ⟨rb,0,none⟩),.int .i64 ((j0:Nat):Int),.agg #[.slice nad ns.length nc,.slice vad vs.length vc]] X (Zct rb prb (Dx (fun g'=>D g'∧(g'<w.heap.size∨w.heap.size+1+1<g')) wr X) (E k (Zds ns vs) ec) X):=fun X hN=>by
  have hBX:=hN.below
  have hXs:=hBX.size
  have hTX:=xf.tw.trans hN.touch
  exact hX X _ k ec j0 ns vs _ (Nat.le_refl _) (fun h=>hDr h.1.1) (fun g' hg'=>⟨⟨hDn g' (by omega),Or.inr (by omega)⟩,Or.inr hg'⟩) (hS.touch hTX) (hkw.same (hBX.block rb (by omega))) ((hx.bound.touch hTX fun k' hk' e=>hDr (e ▸ hk'.1)).map fun _ _ _ _ _ g=>g.weaken fun g' hg'=>⟨⟨hg'.1,Or.inl hg'.2⟩,Or.inl (by have:=hg'.2;omega)⟩) rep0 (hok ec (by simp) k (Nat.le_refl _))
 have CX2:Hid (∀X:World,Zlc wr X→Calls prog 125 #[.pointer (some ⟨rb,0,none⟩),.int .i64 ((j0:Nat):Int),.agg #[.slice nad ns.length nc,.slice vad vs.length vc]] X fun e w'=>Zaa (·=rb) X w'∧∃(kx z:Int) (s:ByteArray) (ad:Option Addr) (n c:Nat) (b:Bool),e=.returned (.tuple #[.agg #[.int .u8 kx,.int .i64 z,.string s,.slice ad n c],.bool b])∧XR rb prb (Dx (fun g'=>D g'∧(g'<w.heap.size∨w.heap.size+1+1<g')) wr X) (E k (Zds ns vs) ec) w' kx z s ad n c b):=fun X hX=>(CX X hX).mono fun e w' h=>Zld h
 have XFA:Aside (XF w wr rb (Zbr (.slice nad ns.length nc) (.slice vad vs.length vc)) (.cells #[.string ⟨#[105,102]⟩,.int .i64 pn,.string psx,.int .i64 ((pa:Nat):Int),.slice (some ⟨gk,0,none⟩) 3 ck] 322)):=xf
 clear hW xf CX r0 r1 rf c6 k0 k1 k2 k3 k4 hkw kd1
 go_cut [10,11] (fun v10 v11 wx=>XB rb prb (fun g'=>D g'∧(g'<w.heap.size∨w.heap.size+1+1<g')) (E k (Zds ns vs) ec) wr wx v10 v11)
 case first =>
  generalize (fun g'=>D g'∧(g'<w.heap.size∨w.heap.size+1+1<g'))=DX at *
  generalize E k (Zds ns vs) ec=O at *
  clear hX hok hE hS XFA hx hDn hDr t0 t1 t2 t3 kc0 kc1 kc2 rep0 rep1 rep2
  go_region_with (first
   |(go_at_call 125;refine (CX2.out _ ?_).mono ?_;(exact⟨rfl,rfl,rfl,Or.inr rfl⟩);rintro e w2 ⟨ht,kk,zz,ss,xad,xn,xc,bb,rfl,hxr⟩;obtain⟨⟨q0,q1,q2,q3,qf,ll⟩,hzz⟩:=Zhv (wr:=wr) ht rfl nrw;have qf0:=qf 0;have qf1:=qf 1;have qf2:=qf 2;have qf3:=qf 3;clear qf)
   |(go_at_call 125;refine (CX2.out _ ?_).mono ?_;(exact⟨rfl,rfl,rfl,Or.inl rfl⟩);rintro e w2 ⟨ht,kk,zz,ss,xad,xn,xc,bb,rfl,hxr⟩))
  all_goals go_wp2_with fail
  all_goals go_meet
  all_goals first
   | exact XB.early hzz ((Zaa.refl _ wr).alloc _).drew hrw ht hxr
   | exact XB.early hzz ((Zaa.refl _ wr).alloc _) hrw ht hxr
   | exact XB.lateD ht hxr
 case rest =>
  obtain⟨ht,B,kk,zz,ss,xad,xn,xc,rfl,hB,hblk,hm⟩:=hcut
  have xfc:=XFA.out.touch lr ht
  obtain⟨⟨d0,d1⟩,e0,e1,e2,e3,e4⟩:=xfc.cells
  have ltc:=xfc.lt
  have lB:=Zag hblk
  obtain⟨x0,x1,x2,x3,xf⟩:=Zak hblk
  obtain⟨q0,q1,q2,q3,qf⟩:=Zak xfc.b1
  have qf0:=qf 0
  have qf1:=qf 1
  have qf2:=qf 2
  have qf3:=qf 3
  have kd1:=xfc.tw.cell kc1 m2
  have kd2:=xfc.tw.cell kc2 m2
  have hgc:gk<wc.heap.size:=by omega
  have nbr:rb≠w.heap.size+1:=by omega
  clear CX2 s0 s1 t0 t1 t2 t3 t4 kd0 xf qf
  cases hO:E k (Zds ns vs) ec with
  | none =>
   rw[hO] at hm
   obtain rfl:u11=.bool false:=hm
   have hev:Aside (Zrw (fun k e=>E k (Zds ns vs) e) k [ec,et,ee]=none):=by show _=_;simp only[Zrw,hO]
   have HT:Aside (Zaa (·=rb) w wc):=xfc.tw
   clear hO hX hok hE hS XFA xfc hblk hx
   go_wp2
   exact bodyPost_ret (v:=.tuple #[.agg #[.int .u8 0,.int .i64 0,.string ⟨#[]⟩,.slice none 0 0],.bool false]) (by simp[results,results125,go_sem,q0,q1,q2,q3]) rfl (Zdv hev.out (Zcf HT.out (by omega) _ _ _ _))
  | some O =>
   obtain⟨v,kk1⟩:=O
   rw[hO] at hm
   obtain⟨rfl,hRV,hK1⟩:u11=.bool true∧RV wc (fun g'=>(D g'∧(g'<w.heap.size∨w.heap.size+1+1<g'))∧g'≠B) v (.agg #[.int .u8 kk,.int .i64 zz,.string ss,.slice xad xn xc])∧RK wc rb prb kk1:=hm
   have hkk1:=hE k v kk1 (Nat.le_refl _) hO
   have CY:∀(e:Ex) (j:Nat),e∈[ec,et,ee]→Ze0 w0 (fun _=>True) ps 0 e j→Hid (∀X:World,EqX wc X→Calls prog 125 #[.pointer (some ⟨rb,0,none⟩),.int .i64 ((j:Nat):Int),.agg #[.slice nad ns.length nc,.slice vad vs.length vc]] X fun en w'=>Zaa (·=rb) wc w'∧w'.heap[w.heap.size+1]?=some Zaz∧∃(kx z:Int) (s:ByteArray) (ad:Option Addr) (n c:Nat) (b:Bool),en=.returned (.tuple #[.agg #[.int .u8 kx,.int .i64 z,.string s,.slice ad n c],.bool b])∧XR rb prb (fun g'=>D g'∧g'≠w.heap.size+1) (E kk1 (Zds ns vs) e) w' kx z s ad n c b):=fun e j he hr X hQ=>by
    have hBX:=hQ.below
    have hXs:=hBX.size
    have hTX:=xfc.tw.trans hQ.touch
    refine (hX X (fun g'=>D g'∧g'≠w.heap.size+1) kk1 e j ns vs _ hkk1 (fun h=>hDr h.1) (fun g' hg'=>⟨hDn g' (by omega),by omega⟩) (hS.touch hTX) (hK1.same (hBX.block rb (by omega))) ((hx.bound.touch hTX fun k' hk' e=>hDr (e ▸ hk'.1)).map fun _ _ _ _ _ g=>g.weaken fun g' hg'=>⟨hg'.1,by have:=hg'.2;omega⟩) hr (hok e he kk1 hkk1)).mono fun en w' h=>?_
    obtain⟨h1,h2⟩:=Zld h
    exact⟨hQ.touch.trans h1,by rw[h1.block _ (by omega) (by omega),hBX.block _ (by omega)];exact xfc.b1,h2⟩
   have HT:Aside (Zaa (·=rb) w wc):=xfc.tw
   cases v with
   | num z =>
    rw[RV] at hRV
    simp only[Value.agg.injEq,Array.mk.injEq,List.cons.injEq,Value.int.injEq,Value.string.injEq,Value.slice.injEq,and_true,true_and] at hRV
    obtain⟨rfl,rfl,rfl,rfl,rfl,rfl⟩:=hRV
    by_cases hz:zz=0
    ·subst hz
     have hev:Aside (Zrw (fun k e=>E k (Zds ns vs) e) k [ec,et,ee]=E kk1 (Zds ns vs) ee):=by show _=_;simp only[Zrw,hO,if_true]
     have cy:=CY ee j2 (by simp) rep2
     clear hO hX hok hE hS XFA xfc hblk hx CY hK1
     go_wp2_with fail
     go_region_with (go_at_call 125;refine (cy.out _ ?_).mono ?_;(exact⟨rfl,rfl,rfl,rfl⟩);rintro e w2 ⟨ht2,hb2,kx,zx,sx,yad,yn,yc,bb,rfl,hxr⟩;obtain⟨y0,y1,y2,y3,yf⟩:=Zak hb2;have yf0:=yf 0;have yf1:=yf 1;have yf2:=yf 2;have yf3:=yf 3;have lb2:=Zag hb2;clear yf)
     all_goals go_wp2_with fail
     all_goals exact bodyPost_ret (v:=.tuple #[.agg #[.int .u8 kx,.int .i64 zx,.string sx,.slice yad yn yc],.bool bb]) (by simp[results,results125,go_sem,y0,y1,y2,y3]) rfl (Zqc hev.out hxr (HT.out.trans ht2) (by omega) nbr)
    ·have hev:Aside (Zrw (fun k e=>E k (Zds ns vs) e) k [ec,et,ee]=E kk1 (Zds ns vs) et):=by show _=_;simp only[Zrw,hO,if_neg hz]
     have cy:=CY et j1 (by simp) rep1
     clear hO hX hok hE hS XFA xfc hblk hx CY hK1
     go_wp2_with fail
     go_region_with (go_at_call 125;refine (cy.out _ ?_).mono ?_;(exact⟨rfl,rfl,rfl,rfl⟩);rintro e w2 ⟨ht2,hb2,kx,zx,sx,yad,yn,yc,bb,rfl,hxr⟩;obtain⟨y0,y1,y2,y3,yf⟩:=Zak hb2;have yf0:=yf 0;have yf1:=yf 1;have yf2:=yf 2;have yf3:=yf 3;have lb2:=Zag hb2;clear yf)
     all_goals go_wp2_with fail
     all_goals exact bodyPost_ret (v:=.tuple #[.agg #[.int .u8 kx,.int .i64 zx,.string sx,.slice yad yn yc],.bool bb]) (by simp[results,results125,go_sem,y0,y1,y2,y3]) rfl (Zqc hev.out hxr (HT.out.trans ht2) (by omega) nbr)
   | txt b =>
    rw[RV] at hRV
    obtain⟨sb,_,hRV⟩:=hRV
    simp only[Value.agg.injEq,Array.mk.injEq,List.cons.injEq,Value.int.injEq,Value.string.injEq,Value.slice.injEq,and_true,true_and] at hRV
    obtain⟨rfl,rfl,rfl,rfl,rfl,rfl⟩:=hRV
    have hev:Aside (Zrw (fun k e=>E k (Zds ns vs) e) k [ec,et,ee]=none):=by show _=_;simp only[Zrw,hO]
    clear hO hX hok hE hS XFA xfc hblk hx CY hK1
    go_wp2
    exact bodyPost_ret (v:=.tuple #[.agg #[.int .u8 0,.int .i64 0,.string ⟨#[]⟩,.slice none 0 0],.bool false]) (by simp[results,results125,go_sem,q0,q1,q2,q3]) rfl (Zdv hev.out (Zcf HT.out (by omega) _ _ _ _))
   | lst l =>
    rw[RV] at hRV
    obtain⟨sl,cs,hRV,_,_⟩:=hRV
    simp only[Value.agg.injEq,Array.mk.injEq,List.cons.injEq,Value.int.injEq,Value.string.injEq,and_true,true_and] at hRV
    obtain⟨rfl,rfl,rfl,rfl⟩:=hRV
    have hev:Aside (Zrw (fun k e=>E k (Zds ns vs) e) k [ec,et,ee]=none):=by show _=_;simp only[Zrw,hO]
    clear hO hX hok hE hS XFA xfc hblk hx CY hK1
    go_wp2
    exact bodyPost_ret (v:=.tuple #[.agg #[.int .u8 0,.int .i64 0,.string ⟨#[]⟩,.slice none 0 0],.bool false]) (by simp[results,results125,go_sem,q0,q1,q2,q3]) rfl (Zdv hev.out (Zcf HT.out (by omega) _ _ _ _))
end
end Go.Proofs.YtliapghpeoaonaaGreatDoor
