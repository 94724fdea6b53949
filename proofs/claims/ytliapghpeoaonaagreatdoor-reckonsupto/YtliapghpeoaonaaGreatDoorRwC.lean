/-
  The reference: reckoning an expr: the exprs of a form, one after the other.
-/
import Derived.Test.YtliapghpeoaonaaGreatDoorRwA
set_option maxHeartbeats 8000000
set_option maxRecDepth 8000
namespace Go.Proofs.YtliapghpeoaonaaGreatDoor
open Go.Proofs.Tryz
open Go.RowKit Go.Lib
attribute [local go_sem ↓] Go.wp_at_zero Go.wp_at_succ
theorem evL_none {C:Nat→Ex→Option (PV×Nat)}{k kq q:Nat}{l:List Ex}{us:List PV}(hq:q<l.length)(h:evL C k l=Zif us (evL C kq (l.drop q)))(hc:C kq l[q]=none):evL C k l=none:=by
 rw[h,List.drop_eq_getElem_cons hq,evL,hc]
 rfl
theorem evL_some {C:Nat→Ex→Option (PV×Nat)}{k kq k1 q:Nat}{l:List Ex}{us:List PV}{u:PV}(hq:q<l.length)(h:evL C k l=Zif us (evL C kq (l.drop q)))(hc:C kq l[q]=some (u,k1)):evL C k l=Zif (us++[u]) (evL C k1 (l.drop (q+1))):=by
 rw[h,List.drop_eq_getElem_cons hq,evL,hc]
 cases hh:evL C k1 (l.drop (q+1)) with
 | none=>simp only[hh];rfl
 | some x=>obtain⟨r,k2⟩:=x;simp only[hh,Zif];simp
theorem evL_end {C:Nat→Ex→Option (PV×Nat)}{k kq:Nat}{l:List Ex}{us:List PV}(h:evL C k l=Zif us (evL C kq (l.drop l.length))):evL C k l=some (us,kq):=by
 rw[h,List.drop_eq_nil_of_le (Nat.le_refl _),evL]
 simp[Zif]
theorem Zqx {w:World}{D:Nat→Prop}{ps:List Zaw}{lo:Nat}:∀{es:List Ex} {js:List Nat},Zby w D ps lo es js→es.length=js.length∧∀q (h1:q<es.length) (h2:q<js.length),Ze0 w D ps lo es[q] js[q]
 | [],js,h=>by rw[Zby] at h;subst h;exact⟨rfl,fun q h1=>absurd h1 (by simp)⟩
 | e::es,js,h=>by
  rw[Zby] at h
  obtain⟨j,r,rfl,h1,h2⟩:=h
  obtain⟨h3,h4⟩:=Zqx h2
  refine⟨by simp[h3],fun q g1 g2=>?_⟩
  cases q with
  | zero=>exact h1
  | succ q=>exact h4 q (by simpa using g1) (by simpa using g2)
def formO (F:Nat→List PV→Option (PV×Nat)):Option (List PV×Nat)→Option (PV×Nat)
 | none=>none
 | some (us,k1)=>F k1 us
def FormDo (w:World)(rb prb k m:Nat)(pv:Value)(F:Nat→List PV→Option (PV×Nat)):Prop :=
 ∀(X:World) (D:Nat→Prop) (k':Nat) (vs:List PV) (sl:Value) (cs:List Value),Zaa (·=rb) w X→¬ D rb→(∀g,X.heap.size≤g→D g)→RK X rb prb k'→k'≤k→Zar X D 46 4 sl vs.length cs→RVs X D vs cs→vs.length=m→(∀v∈vs,Zec v)→Calls prog 170 #[.pointer (some ⟨rb,0,none⟩),pv,sl] X (Zct rb prb D (F k' vs) X)
section
variable {w0 w:World} {rb prb:Nat} {fv pv:Value} {fs:List Ze8} {ps:List Zaw} {fns:List Fn}
theorem rx_form (D:Nat→Prop)(hDr:¬ D rb)(hDn:∀g,w.heap.size≤g→D g)(hS:Zht w0 rb prb fv pv fs ps fns w){k:Nat}(hR:RK w rb prb (k+1))(i:Nat)(p:Zaw)(hp:ps[i]?=some p)(js:List Nat)(hkv:Zao w0 (fun _=>True) 3 1 p.kv js.length (js.map fun j:Nat=>Value.int .i64 (j:Int)))(hjb:js.length≤100000)(ns:List ByteArray)(vs:List PV)(x:Value)(hx:RS w D ns vs x)(es:List Ex)(hrep:Zby w0 (fun _=>True) ps 0 es js)(E:Nat→Env→Ex→Option (PV×Nat))(hX:XE w0 rb prb fv pv fs ps fns E k)(hok:∀e∈es,∀k'≤k,XOk fns ns vs k' e)(hE:∀e∈es,∀k' v k'',k'≤k→E k' (Zds ns vs) e=some (v,k'')→Zec v∧k''≤k')
  (o1:(p.op.toList==[49])=false) (o2:(p.op.toList==[39])=false) (o3:(p.op.toList==[97])=false) (o4:(p.op.toList==[105,102])=false) (o5:(p.op.toList==[108,101,116])=false)
  (F:Nat→List PV→Option (PV×Nat)) (hF:FormDo w rb prb k es.length (.agg #[.string p.op,.int .i64 p.n,.string p.s,.int .i64 ((p.at_:Nat):Int),p.kv]) F) :
  Calls prog 125 #[.pointer (some ⟨rb,0,none⟩),.int .i64 ((i:Nat):Int),x] w (Zct rb prb D (formO F (evL (fun k e=>E k (Zds ns vs) e) k es)) w):=by
 have hx0:=hx
 obtain⟨nsl,vsl,xcs,rfl,hx2,hx3,hx4,hx5⟩:=hx0
 obtain⟨nad,nc,h1⟩:=hx2.slice
 obtain⟨vad,vc,h2⟩:=hx3.slice
 obtain⟨st,hst,r0,r1,rf,lr,hset⟩:=hR.facts
 have hk:=hR.hk
 have hsa:0≤st:=by omega
 have hsb:st≤19999:=by omega
 have HST:Aside (RK (w.setCell ⟨rb,1,none⟩ (.int .i64 (st+1))) rb prb k):=hset (st+1) k (by omega) (by omega)
 clear hset hst
 have pm:=hS.pm'
 have c6:=pm.c6
 obtain⟨g,c',rfl,hc1,hc2,hi,k0,k1,k2,k3,k4⟩:=Zc4 pm hp
 obtain⟨kad,kcap,ekv⟩:=(Zar.of_row hkv).slice
 rw[ekv] at k4 hF hkv
 have lg:=Zae k0
 have lp:=Zae c6
 simp only at lg lp
 have hlt0:g<w0.heap.size:=by
  have h0:=Zc4 hS.pm hp
  obtain⟨g',c2,e,_,_,_,q0,_⟩:=h0
  simp only[Value.slice.injEq,Option.some.injEq,Addr.mk.injEq,and_true,true_and] at e
  obtain⟨rfl,_⟩:=e
  have:=Zae q0
  simpa using this
 have hlp0:prb<w0.heap.size:=by have:=Zae hS.pm.c6;simpa using this
 have hr:=hS.hr
 have hf:=pm.hp
 have hsz:=hS.hb.size
 subst h1 h2
 clear hx2 hx3 hx4 hx5
 have f1:=rf 1
 have n0:w.heap.size≠rb:=by omega
 have n1:w.heap.size+1≠rb:=by omega
 have n2:w.heap.size≠g:=by omega
 have n3:w.heap.size+1≠g:=by omega
 have n4:w.heap.size≠prb:=by omega
 have n5:w.heap.size+1≠prb:=by omega
 have n6:rb≠g:=by omega
 have n7:rb≠prb:=by omega
 have n8:g≠rb:=by omega
 have n9:prb≠rb:=by omega
 unfold maxLen at hc2
 obtain⟨hlen,hrepq⟩:=Zqx hrep
 have HLEN:Aside (es.length=js.length):=hlen
 clear hlen hrep
 generalize p.op=op at *
 generalize p.n=pn at *
 generalize p.s=psx at *
 generalize p.at_=pa at *
 have xf0:=XF.start w rb (.int .i64 (st+1)) (Zbr (.slice nad ns.length nc) (.slice vad vs.length vc)) (.cells #[.string op,.int .i64 pn,.string psx,.int .i64 ((pa:Nat):Int),.slice kad js.length kcap] 322)
 have hk0:RK ((((w.setCell ⟨rb,1,none⟩ (.int .i64 (st+1))).alloc (Zbr (.slice nad ns.length nc) (.slice vad vs.length vc))).alloc Zaz).alloc (.cells #[.string op,.int .i64 pn,.string psx,.int .i64 ((pa:Nat):Int),.slice kad js.length kcap] 322)) rb prb k:=((HST.out.below (Zab _ _)).below (Zab _ _)).below (Zab _ _)
 have hkvW:=Zai hkv hS.hb
 clear HST pm hR
 go_enter func125,ntmps125
 go_wp2_with fail
 go_loopg [12,13] js.length (fun gh lv iv wr=>∃(q kq:Nat) (us:List PV) (cs:List Value),gh=js.length-q∧iv=.int .i64 ((q:Nat):Int)∧q≤js.length∧us.length=q∧(∀u∈us,Zec u)∧kq≤k∧RK wr rb prb kq∧XF w wr rb (Zbr (.slice nad ns.length nc) (.slice vad vs.length vc)) (.cells #[.string op,.int .i64 pn,.string psx,.int .i64 ((pa:Nat):Int),.slice kad js.length kcap] 322)∧GR wr (w.heap.size+3) (fun g'=>D g'∧(g'<w.heap.size∨w.heap.size+1+1<g')) us lv cs∧Aside (evL (fun k e=>E k (Zds ns vs) e) k es=Zif us (evL (fun k e=>E k (Zds ns vs) e) kq (es.drop q))))
 case atStart =>
  refine⟨0,k,[],[],by omega,rfl,by omega,rfl,by simp,Nat.le_refl _,hk0,xf0,GR.start _ _ _,?_⟩
  show _=_
  rw[List.drop_zero]
  cases evL (fun k e=>E k (Zds ns vs) e) k es with
  | none=>rfl
  | some x=>rfl
 case round =>
  obtain⟨q,kq,us,cs',rfl,rfl,hq,hul,hus,hkq,hkr,xf,gr,hEQ⟩:=hrel
  obtain⟨⟨s0,s1⟩,t0,t1,t2,t3,t4⟩:=xf.cells
  have ltr:=xf.lt
  have hszr:=xf.tw.size
  obtain⟨oad,ocap,hos⟩:=(Zar.of_row (Zao.of_owns gr.own)).slice
  subst hos
  have hlo:∀g',(Value.slice oad us.length ocap).ownBlock=some g'→w.heap.size+3≤g'∧g'<wr.heap.size:=fun g' e=>gr.own.lt g' e
  clear r0 r1 rf c6 k0 k1 k2 k3 k4 xf0 hk0
  by_cases hlt:q<js.length
  ·have hltE:q<es.length:=by rw[HLEN.out];exact hlt
   obtain⟨gk,ck,ekv',_,hkk1,hkk2,hkcw⟩:=hkvW.cell (by omega)
   simp only[Value.slice.injEq] at ekv'
   obtain⟨rfl,_,rfl⟩:=ekv'
   have lgk:gk<w0.heap.size:=Z0n hkv (by omega)
   have m2:gk≠rb:=by omega
   obtain⟨jq,hjq⟩:∃jq,js[q]=jq:=⟨_,rfl⟩
   obtain⟨eq,heq⟩:∃eq,es[q]=eq:=⟨_,rfl⟩
   have kcq:w.cell? ⟨gk,q,none⟩=some (.int .i64 ((jq:Nat):Int)):=by rw[hkcw q (by omega)];simp[hlt,hjq]
   have kdq:=xf.tw.cell kcq m2
   have repq:Ze0 w0 (fun _=>True) ps 0 eq jq:=by rw[←hjq,←heq];exact hrepq q hltE hlt
   have hmem:eq∈es:=by rw[←heq];exact List.getElem_mem hltE
   have hrw:rb<wr.heap.size:=by omega
   have nrw:wr.heap.size≠rb:=by omega
   have hgw:gk<wr.heap.size:=by omega
   have ngw:wr.heap.size≠gk:=by omega
   have ngv:gk≠wr.heap.size:=by omega
   have nw0:wr.heap.size≠w.heap.size:=by omega
   have nv0:w.heap.size≠wr.heap.size:=by omega
   have nw2:wr.heap.size≠w.heap.size+1+1:=by omega
   have nv2:w.heap.size+1+1≠wr.heap.size:=by omega
   have lw0:w.heap.size<wr.heap.size:=by omega
   have key:∀g',D g'∧g'<w.heap.size→(D g'∧(g'<w.heap.size∨w.heap.size+1+1<g'))∧some g'≠(Value.slice oad us.length ocap).ownBlock:=fun g' hg=>⟨⟨hg.1,Or.inl hg.2⟩,fun e=>by have:=(hlo g' e.symm).1;omega⟩
   have CX:∀X:World,Zlc wr X→Calls prog 125 #[.pointer (some ⟨rb,0,none⟩),.int .i64 ((jq:Nat):Int),.agg #[.slice nad ns.length nc,.slice vad vs.length vc]] X (Zct rb prb (Dx (fun g'=>(D g'∧(g'<w.heap.size∨w.heap.size+1+1<g'))∧some g'≠(Value.slice oad us.length ocap).ownBlock) wr X) (E kq (Zds ns vs) eq) X):=fun X hN=>by
    have hBX:=hN.below
    have hXs:=hBX.size
    have hTX:=xf.tw.trans hN.touch
    exact hX X _ kq eq jq ns vs _ hkq (fun h=>hDr h.1.1.1) (fun g' hg'=>⟨⟨⟨hDn g' (by omega),Or.inr (by omega)⟩,fun e=>by have:=(hlo g' e.symm).2;omega⟩,Or.inr hg'⟩) (hS.touch hTX) (hkr.same (hBX.block rb (by omega))) ((hx.bound.touch hTX fun k' hk' e=>hDr (e ▸ hk'.1)).map fun _ _ _ _ _ g=>g.weaken fun g' hg'=>⟨key g' hg',Or.inl (by have:=hg'.2;omega)⟩) repq (hok eq hmem kq hkq)
   have CX2:Hid (∀X:World,Zlc wr X→Calls prog 125 #[.pointer (some ⟨rb,0,none⟩),.int .i64 ((jq:Nat):Int),.agg #[.slice nad ns.length nc,.slice vad vs.length vc]] X fun e w'=>Zaa (·=rb) X w'∧∃(kx z:Int) (s:ByteArray) (ad:Option Addr) (n c:Nat) (b:Bool),e=.returned (.tuple #[.agg #[.int .u8 kx,.int .i64 z,.string s,.slice ad n c],.bool b])∧XR rb prb (Dx (fun g'=>(D g'∧(g'<w.heap.size∨w.heap.size+1+1<g'))∧some g'≠(Value.slice oad us.length ocap).ownBlock) wr X) (E kq (Zds ns vs) eq) w' kx z s ad n c b):=fun X hX=>(CX X hX).mono fun e w' h=>Zld h
   have XFA:Aside (XF w wr rb (Zbr (.slice nad ns.length nc) (.slice vad vs.length vc)) (.cells #[.string op,.int .i64 pn,.string psx,.int .i64 ((pa:Nat):Int),.slice (some ⟨gk,0,none⟩) js.length kcap] 322)):=xf
   have GRA:Aside (GR wr (w.heap.size+3) (fun g'=>D g'∧(g'<w.heap.size∨w.heap.size+1+1<g')) us (.slice oad us.length ocap) cs'):=gr
   have HUL:Aside (us.length=q):=hul
   have HUS:Aside (∀u∈us,Zec u):=hus
   have hqi:((q:Nat):Int)<((js.length:Nat):Int):=by omega
   unfold maxLen at hkk2
   clear CX xf gr hul hus hkr hkvW hkv hkcw hrepq hX hS hx hF key hlo
   go_wp2_with fail
   go_cut [14,15] from 126 to 150 (fun v10 v11 wx=>XB rb prb (fun g'=>(D g'∧(g'<w.heap.size∨w.heap.size+1+1<g'))∧some g'≠(Value.slice oad us.length ocap).ownBlock) (E kq (Zds ns vs) eq) wr wx v10 v11)
   case first =>
    generalize (fun g'=>(D g'∧(g'<w.heap.size∨w.heap.size+1+1<g'))∧some g'≠(Value.slice oad us.length ocap).ownBlock)=DX at *
    generalize E kq (Zds ns vs) eq=O at *
    clear hok hE XFA GRA hDn hDr t0 t1 t2 t3 kcq repq HUL HUS hEQ hmem heq hjq HLEN o1 o2 o3 o4 o5
    go_region_with (first
     |(go_at_call 125;refine (CX2.out _ ?_).mono ?_;(exact⟨rfl,rfl,rfl,Or.inr rfl⟩);rintro e w2 ⟨ht,kk,zz,ss,xad,xn,xc,bb,rfl,hxr⟩;obtain⟨⟨q0,q1,q2,q3,qf,ll⟩,hzz⟩:=Zhv (wr:=wr) ht rfl nrw;have qf0:=qf 0;have qf1:=qf 1;have qf2:=qf 2;have qf3:=qf 3;clear qf)
     |(go_at_call 125;refine (CX2.out _ ?_).mono ?_;(exact⟨rfl,rfl,rfl,Or.inl rfl⟩);rintro e w2 ⟨ht,kk,zz,ss,xad,xn,xc,bb,rfl,hxr⟩))
    all_goals go_wp2_with fail
    all_goals go_meet
    all_goals first
     | exact XB.early hzz ((Zaa.refl _ wr).alloc _).drew hrw ht hxr
     | exact XB.early hzz ((Zaa.refl _ wr).alloc _) hrw ht hxr
     | exact XB.lateD ht hxr
   case rest =>
    obtain⟨ht,B,kk,zz,ss,xad,xn,xc,rfl,hB,hblk,hm⟩:=hcut
    have xfc:=XFA.out.touch lr ht
    have grc:=GRA.out.touch ht (by omega) (fun h=>hDr h.1)
    obtain⟨⟨d0,d1⟩,e0,e1,e2,e3,e4⟩:=xfc.cells
    have ltc:=xfc.lt
    have lB:=Zag hblk
    obtain⟨x0,x1,x2,x3,xf⟩:=Zak hblk
    obtain⟨q0,q1,q2,q3,qf⟩:=Zak xfc.b1
    have qf0:=qf 0
    have qf1:=qf 1
    have qf2:=qf 2
    have qf3:=qf 3
    clear CX2 s0 s1 t0 t1 t2 t3 t4 kdq xf qf
    cases hO:E kq (Zds ns vs) eq with
    | none =>
     rw[hO] at hm
     obtain rfl:u15=.bool false:=hm
     have hev:Aside ((formO F (evL (fun k e=>E k (Zds ns vs) e) k es))=none):=by show _=_;rw[evL_none hltE hEQ.out (by rw[heq];exact hO)];rfl
     have HT:Aside (Zaa (·=rb) w wc):=xfc.tw
     clear hO hok hE XFA GRA xfc grc hblk hEQ HUL HUS
     go_wp2
     exact bodyPost_ret (v:=.tuple #[.agg #[.int .u8 0,.int .i64 0,.string ⟨#[]⟩,.slice none 0 0],.bool false]) (by simp[results,results125,go_sem,q0,q1,q2,q3]) rfl (Zdv hev.out (Zcf HT.out (by omega) _ _ _ _))
    | some O =>
     obtain⟨u,kk1⟩:=O
     rw[hO] at hm
     obtain⟨rfl,hRV,hK1⟩:u15=.bool true∧RV wc (fun g'=>((D g'∧(g'<w.heap.size∨w.heap.size+1+1<g'))∧some g'≠(Value.slice oad us.length ocap).ownBlock)∧g'≠B) u (.agg #[.int .u8 kk,.int .i64 zz,.string ss,.slice xad xn xc])∧RK wc rb prb kk1:=hm
     have HRV:Aside (RV wc (fun g'=>(D g'∧(g'<w.heap.size∨w.heap.size+1+1<g'))∧some g'≠(Value.slice oad us.length ocap).ownBlock) u (.agg #[.int .u8 kk,.int .i64 zz,.string ss,.slice xad xn xc])):=hRV.weaken fun g' h=>h.1
     obtain⟨hFu,hk1⟩:=hE eq hmem kq u kk1 hkq hO
     have hE2:Aside (evL (fun k e=>E k (Zds ns vs) e) k es=Zif (us++[u]) (evL (fun k e=>E k (Zds ns vs) e) kk1 (es.drop (q+1)))):=evL_some hltE hEQ.out (by rw[heq];exact hO)
     have HK1:Aside (RK wc rb prb kk1):=hK1
     have XFC:Aside (XF w wc rb (Zbr (.slice nad ns.length nc) (.slice vad vs.length vc)) (.cells #[.string op,.int .i64 pn,.string psx,.int .i64 ((pa:Nat):Int),.slice (some ⟨gk,0,none⟩) js.length kcap] 322)):=xfc
     have GRC:Aside (GR wc (w.heap.size+3) (fun g'=>D g'∧(g'<w.heap.size∨w.heap.size+1+1<g')) us (.slice oad us.length ocap) cs'):=grc
     have hlo:∀g',(Value.slice oad us.length ocap).ownBlock=some g'→w.heap.size+3≤g':=fun g' e=>(grc.own.lt g' e).1
     have HLO:Aside (∀g',(Value.slice oad us.length ocap).ownBlock=some g'→w.heap.size+3≤g'):=hlo
     clear hO hok hE XFA GRA xfc grc hblk hEQ hRV hK1 q0 q1 q2 q3 qf0 qf1 qf2 qf3 hlo
     have nB:B≠wc.heap.size:=by omega
     go_wp2_with (at_builtin;obtain⟨i0,hi,hz0,hz1,hz2⟩:=info_parts Tryz.infoVal;refine Zbs (D:=fun _=>True) rfl _ _ 44 rfl (w.heap.size+3) 46 i0 (.agg #[.int .u8 0,.int .i64 0,.string ⟨#[]⟩,.slice none 0 0]) 4 56 underlying44 hi hz0 hz1 hz2 rfl (by decide) (.slice oad us.length ocap) us.length cs' rfl (GRC.out.own.alloc _) (.slice (some ⟨wc.heap.size,0,none⟩) 1 1) 1 [.int .u8 kk,.int .i64 zz,.string ss,.slice xad xn xc] rfl (Zhr _ _ _ _ _ _ _ rfl) (fun x hx=>by simp at hx;rcases hx with rfl | rfl | rfl | rfl<;>rfl) (by have:=HUL.out;unfold maxLen;omega) (by have:=HUL.out;omega) (by simp;omega) ?_;intro sl' w6 hown' hgrow hob;clear hi hz0 hz1 hz2;have hps:=GRC.out.push HRV.out (Zab wc _) hown' hgrow hob)
     have T6:∀g',g'<w.heap.size+3→g'<wc.heap.size→w6.heap[g']?=wc.heap[g']?:=fun g' h1 h2=>by rw[hgrow.block g' (by simp;omega) (fun e=>by have:=HLO.out g' e.symm;omega),Za0 _ _ _ h2]
     go_roundg (js.length-(q+1))
     case measure=>omega
     case rel =>
      refine⟨q+1,kk1,us++[u],cs'++[.int .u8 kk,.int .i64 zz,.string ss,.slice xad xn xc],rfl,by go_num,by omega,by have:=HUL.out;simp;omega,?_,by omega,?_,?_,hps,hE2⟩
      ·intro v hv
       rcases List.mem_append.1 hv with h | h
       ·exact HUS.out v h
       ·simp at h
        rw[h]
        exact hFu
      ·exact HK1.out.same (T6 rb (by omega) (by omega))
      ·refine⟨⟨?_,?_,?_,?_,?_⟩,by rw[T6 _ (by omega) (by omega)];exact XFC.out.b0,by rw[T6 _ (by omega) (by omega)];exact XFC.out.b1,by rw[T6 _ (by omega) (by omega)];exact XFC.out.b2⟩
       ·rw[hgrow.os];exact XFC.out.tw.os
       ·rw[hgrow.tape];exact XFC.out.tw.tape
       ·rw[hgrow.output];exact XFC.out.tw.output
       ·have h1:=hgrow.size
        have h2:=XFC.out.tw.size
        simp at h1
        omega
       ·intro g' h1 h2
        rw[T6 g' (by omega) (by omega)]
        exact XFC.out.tw.block g' h1 h2
  ·have hqq:q=js.length:=by omega
   subst hqq
   have hev:Aside ((formO F (evL (fun k e=>E k (Zds ns vs) e) k es))=F kq us):=by
    show _=_
    have hq2:=hEQ.out
    rw[←HLEN.out] at hq2
    rw[evL_end hq2]
    rfl
   have cf:=hF wr (fun g'=>D g'∧g'≠w.heap.size+1) kq us _ cs' xf.tw (fun h=>hDr h.1) (fun g' hg'=>⟨hDn g' (by omega),by omega⟩) hkr hkq ((Zar.of_row (Zao.of_owns gr.own)).weaken fun g' hg'=>by
    have h3:w.heap.size+3≤g':=hg'
    exact⟨hDn g' (by omega),by omega⟩) (gr.rvs.weaken fun g' hg'=>⟨hg'.1.1,by rcases hg'.1.2 with h | h<;>omega⟩) (by rw[hul,HLEN.out]) hus
   have CF:Hid (Calls prog 170 #[.pointer (some ⟨rb,0,none⟩),.agg #[.string op,.int .i64 pn,.string psx,.int .i64 ((pa:Nat):Int),.slice kad js.length kcap],.slice oad us.length ocap] wr fun en w'=>Zaa (·=rb) wr w'∧w'.heap[w.heap.size+1]?=some Zaz∧∃(kx z:Int) (s:ByteArray) (ad:Option Addr) (n c:Nat) (b:Bool),en=.returned (.tuple #[.agg #[.int .u8 kx,.int .i64 z,.string s,.slice ad n c],.bool b])∧XR rb prb (fun g'=>D g'∧g'≠w.heap.size+1) (F kq us) w' kx z s ad n c b):=cf.mono fun en w' h=>by
    obtain⟨h1,h2⟩:=Zld h
    exact⟨h1,by rw[h1.block _ (by omega) (by omega)];exact xf.b1,h2⟩
   have HT:Aside (Zaa (·=rb) w wr):=xf.tw
   have nbr:rb≠w.heap.size+1:=by omega
   clear cf hF hX hok hE hS hx hkv hkvW hrepq xf gr hkr hEQ hul hus hlo
   go_wp2_with (go_at_call 170;refine CF.out.mono ?_;rintro e w2 ⟨ht2,hb2,kx,zx,sx,yad,yn,yc,bb,rfl,hxr⟩;obtain⟨y0,y1,y2,y3,yf⟩:=Zak hb2;have yf0:=yf 0;have yf1:=yf 1;have yf2:=yf 2;have yf3:=yf 3;have lb2:=Zag hb2;clear yf)
   exact bodyPost_ret (v:=.tuple #[.agg #[.int .u8 kx,.int .i64 zx,.string sx,.slice yad yn yc],.bool bb]) (by simp[results,results125,go_sem,y0,y1,y2,y3]) rfl (Zqc hev.out hxr (HT.out.trans ht2) (by omega) nbr)
end
end Go.Proofs.YtliapghpeoaonaaGreatDoor
