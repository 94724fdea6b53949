/-
  The reference: reckoning an expr: let.
-/
import Derived.Test.YtliapghpeoaonaaGreatDoorRwA
set_option maxHeartbeats 8000000
set_option maxRecDepth 8000
namespace Go.Proofs.YtliapghpeoaonaaGreatDoor
open Go.Proofs.Tryz
open Go.RowKit Go.Lib
attribute [local go_sem ↓] Go.wp_at_zero Go.wp_at_succ
section
variable {w0 w:World} {rb prb:Nat} {fv pv:Value} {fs:List Ze8} {ps:List Zaw} {fns:List Fn}
theorem rx_let (D:Nat→Prop)(hDr:¬ D rb)(hDn:∀g,w.heap.size≤g→D g)(hS:Zht w0 rb prb fv pv fs ps fns w){k:Nat}(hR:RK w rb prb (k+1))(i:Nat)(p:Zaw)(hp:ps[i]?=some p)(js:List Nat)(hkv:Zao w0 (fun _=>True) 3 1 p.kv js.length (js.map fun j:Nat=>Value.int .i64 (j:Int)))(hjl:js.length=2)(ns:List ByteArray)(vs:List PV)(hnl:ns.length=vs.length)(hnb:ns.length≤100000)(x:Value)(hx:RS w D ns vs x)(ho:p.op.data.toList=[108,101,116])(ev eb:Ex)(hrep:Zby w0 (fun _=>True) ps 0 [ev,eb] js)(E:Nat→Env→Ex→Option (PV×Nat))(hX:XE w0 rb prb fv pv fs ps fns E k)(hok:∀e∈[ev],∀k'≤k,XOk fns ns vs k' e)(hokb:∀k'≤k,∀v,Zec v→XOk fns (ns++[p.s]) (vs++[v]) k' eb)(hE:∀k' v k'',k'≤k→E k' (Zds ns vs) ev=some (v,k'')→Zec v∧k''≤k'):
  Calls prog 125 #[.pointer (some ⟨rb,0,none⟩),.int .i64 ((i:Nat):Int),x] w (Zct rb prb D (Zk5 E k (Zds ns vs) p.s.data.toList [ev,eb]) w):=by
 have hx0:=hx
 obtain⟨nsl,vsl,xcs,rfl,hx2,hx3,hx4,hx5⟩:=hx0
 obtain⟨nad,nc,h1⟩:=hx2.slice
 obtain⟨vad,vc,h2⟩:=hx3.slice
 obtain⟨st,hst,r0,r1,rf,lr,hset⟩:=hR.facts
 have hk:=hR.hk
 have hsa:0≤st:=by omega
 have hsb:st≤19999:=by omega
 have HST:Aside (RK (w.setCell ⟨rb,1,none⟩ (.int .i64 (st+1))) rb prb k):=hset (st+1) k (by omega) (by omega)
 clear hset hst
 have pm:=hS.pm'
 have c6:=pm.c6
 obtain⟨g,c',rfl,hc1,hc2,hi,k0,k1,k2,k3,k4⟩:=Zc4 pm hp
 have hkvW:=Zai hkv hS.hb
 obtain⟨gk,ck,ekv,_,hk1,hk2,hkc⟩:=hkv.cell (by rw[hjl];omega)
 have lgk:gk<w0.heap.size:=Z0n (ekv ▸ hkv) (by omega)
 obtain⟨gk',ck',ekv',_,hkk1,hkk2,hkcw⟩:=hkvW.cell (by rw[hjl];omega)
 rw[ekv] at ekv'
 simp only[Value.slice.injEq,Option.some.injEq,Addr.mk.injEq,and_true,true_and] at ekv'
 obtain⟨rfl,rfl⟩:=ekv'
 rw[ekv,hjl] at k4
 have lg:=Zae k0
 have lp:=Zae c6
 simp only at lg lp
 have hlt0:g<w0.heap.size:=by
  have h0:=Zc4 hS.pm hp
  obtain⟨g',c2,e,_,_,_,q0,_⟩:=h0
  simp only[Value.slice.injEq,Option.some.injEq,Addr.mk.injEq,and_true,true_and] at e
  obtain⟨rfl,_⟩:=e
  have:=Zae q0
  simpa using this
 have hlp0:prb<w0.heap.size:=by have:=Zae hS.pm.c6;simpa using this
 have hr:=hS.hr
 have hf:=pm.hp
 have hsz:=hS.hb.size
 subst h1 h2
 clear hx2 hx3 hx4 hx5
 have f1:=rf 1
 have n0:w.heap.size≠rb:=by omega
 have n1:w.heap.size+1≠rb:=by omega
 have n2:w.heap.size≠g:=by omega
 have n3:w.heap.size+1≠g:=by omega
 have n4:w.heap.size≠prb:=by omega
 have n5:w.heap.size+1≠prb:=by omega
 have n6:rb≠g:=by omega
 have n7:rb≠prb:=by omega
 have n8:g≠rb:=by omega
 have n9:prb≠rb:=by omega
 have m1:rb≠gk:=by omega
 have m2:gk≠rb:=by omega
 unfold maxLen at hc2
 generalize p.op=op at *
 generalize p.n=pn at *
 generalize p.s=psx at *
 generalize p.at_=pa at *
 obtain⟨j0,j1,rfl⟩:∃j0 j1,js=[j0,j1]:=by
  match js,hjl with
  | [a,b],_=>exact⟨a,b,rfl⟩
 obtain⟨rep0,hrep⟩:=Zgc hrep
 obtain⟨rep1,_⟩:=Zgc hrep
 have kc0:w.cell? ⟨gk,0,none⟩=some (.int .i64 ((j0:Nat):Int)):=by rw[hkcw 0 (by simp)];rfl
 have kc1:w.cell? ⟨gk,1,none⟩=some (.int .i64 ((j1:Nat):Int)):=by rw[hkcw 1 (by simp)];rfl
 rw[Zeo ho] at k0
 have hkk1':2≤ck:=by simpa using hkk1
 have hkk2':ck≤9223372036854775807:=by unfold maxLen at hkk2;omega
 have xf:=XF.start w rb (.int .i64 (st+1)) (Zbr (.slice nad ns.length nc) (.slice vad vs.length vc)) (.cells #[.string ⟨#[108,101,116]⟩,.int .i64 pn,.string psx,.int .i64 ((pa:Nat):Int),.slice (some ⟨gk,0,none⟩) 2 ck] 322)
 have hkw:RK ((((w.setCell ⟨rb,1,none⟩ (.int .i64 (st+1))).alloc (Zbr (.slice nad ns.length nc) (.slice vad vs.length vc))).alloc Zaz).alloc (.cells #[.string ⟨#[108,101,116]⟩,.int .i64 pn,.string psx,.int .i64 ((pa:Nat):Int),.slice (some ⟨gk,0,none⟩) 2 ck] 322)) rb prb k:=((HST.out.below (Zab _ _)).below (Zab _ _)).below (Zab _ _)
 have HNL:Aside (ns.length=vs.length):=hnl
 clear hkv hkvW hkc hkcw hkk1 hkk2 hk1 hk2 ekv hrep pm HST hR hnl
 go_enter func125,ntmps125
 go_upto_region 14 with fail
 generalize hW:((((w.setCell ⟨rb,1,none⟩ (.int .i64 (st+1))).alloc (Zbr (.slice nad ns.length nc) (.slice vad vs.length vc))).alloc Zaz).alloc (.cells #[.string ⟨#[108,101,116]⟩,.int .i64 pn,.string psx,.int .i64 ((pa:Nat):Int),.slice (some ⟨gk,0,none⟩) 2 ck] 322))=wr at *
 obtain⟨⟨s0,s1⟩,t0,t1,t2,t3,t4⟩:=xf.cells
 have ltr:=xf.lt
 have kd0:=xf.tw.cell kc0 m2
 have kd1:=xf.tw.cell kc1 m2
 have hrw:rb<wr.heap.size:=by omega
 have nrw:wr.heap.size≠rb:=by omega
 have hgw:gk<wr.heap.size:=by omega
 have ngw:wr.heap.size≠gk:=by omega
 have ngv:gk≠wr.heap.size:=by omega
 have nw0:wr.heap.size≠w.heap.size:=by omega
 have nv0:w.heap.size≠wr.heap.size:=by omega
 have nw2:wr.heap.size≠w.heap.size+1+1:=by omega
 have nv2:w.heap.size+1+1≠wr.heap.size:=by omega
 have lw0:w.heap.size<wr.heap.size:=by omega
 have CX:∀X:World,Zlc wr X→Calls prog 125 #[.pointer (some ⟨rb,0,none⟩),.int .i64 ((j0:Nat):Int),.agg #[.slice nad ns.length nc,.slice vad vs.length vc]] X (Zct rb prb (Dx (fun g'=>D g'∧(g'<w.heap.size∨w.heap.size+1+1<g')) wr X) (E k (Zds ns vs) ev) X):=fun X hN=>by
  have hBX:=hN.below
  have hXs:=hBX.size
  have hTX:=xf.tw.trans hN.touch
  exact hX X _ k ev j0 ns vs _ (Nat.le_refl _) (fun h=>hDr h.1.1) (fun g' hg'=>⟨⟨hDn g' (by omega),Or.inr (by omega)⟩,Or.inr hg'⟩) (hS.touch hTX) (hkw.same (hBX.block rb (by omega))) ((hx.bound.touch hTX fun k' hk' e=>hDr (e ▸ hk'.1)).map fun _ _ _ _ _ g=>g.weaken fun g' hg'=>⟨⟨hg'.1,Or.inl hg'.2⟩,Or.inl (by have:=hg'.2;omega)⟩) rep0 (hok ev (by simp) k (Nat.le_refl _))
 have CX2:Hid (∀X:World,Zlc wr X→Calls prog 125 #[.pointer (some ⟨rb,0,none⟩),.int .i64 ((j0:Nat):Int),.agg #[.slice nad ns.length nc,.slice vad vs.length vc]] X fun e w'=>Zaa (·=rb) X w'∧∃(kx z:Int) (s:ByteArray) (ad:Option Addr) (n c:Nat) (b:Bool),e=.returned (.tuple #[.agg #[.int .u8 kx,.int .i64 z,.string s,.slice ad n c],.bool b])∧XR rb prb (Dx (fun g'=>D g'∧(g'<w.heap.size∨w.heap.size+1+1<g')) wr X) (E k (Zds ns vs) ev) w' kx z s ad n c b):=fun X hX=>(CX X hX).mono fun e w' h=>Zld h
 have XFA:Aside (XF w wr rb (Zbr (.slice nad ns.length nc) (.slice vad vs.length vc)) (.cells #[.string ⟨#[108,101,116]⟩,.int .i64 pn,.string psx,.int .i64 ((pa:Nat):Int),.slice (some ⟨gk,0,none⟩) 2 ck] 322)):=xf
 clear hW xf CX r0 r1 rf c6 k0 k1 k2 k3 k4 hkw kd1
 go_cut [10,11] (fun v10 v11 wx=>XB rb prb (fun g'=>D g'∧(g'<w.heap.size∨w.heap.size+1+1<g')) (E k (Zds ns vs) ev) wr wx v10 v11)
 case first =>
  generalize (fun g'=>D g'∧(g'<w.heap.size∨w.heap.size+1+1<g'))=DX at *
  generalize E k (Zds ns vs) ev=O at *
  clear hX hok hE hS XFA hx hDn hDr t0 t1 t2 t3 kc0 kc1 hokb rep0 rep1
  go_region_with (first
   |(go_at_call 125;refine (CX2.out _ ?_).mono ?_;(exact⟨rfl,rfl,rfl,Or.inr rfl⟩);rintro e w2 ⟨ht,kk,zz,ss,xad,xn,xc,bb,rfl,hxr⟩;obtain⟨⟨q0,q1,q2,q3,qf,ll⟩,hzz⟩:=Zhv (wr:=wr) ht rfl nrw;have qf0:=qf 0;have qf1:=qf 1;have qf2:=qf 2;have qf3:=qf 3;clear qf)
   |(go_at_call 125;refine (CX2.out _ ?_).mono ?_;(exact⟨rfl,rfl,rfl,Or.inl rfl⟩);rintro e w2 ⟨ht,kk,zz,ss,xad,xn,xc,bb,rfl,hxr⟩))
  all_goals go_wp2_with fail
  all_goals go_meet
  all_goals first
   | exact XB.early hzz ((Zaa.refl _ wr).alloc _).drew hrw ht hxr
   | exact XB.early hzz ((Zaa.refl _ wr).alloc _) hrw ht hxr
   | exact XB.lateD ht hxr
 case rest =>
  obtain⟨ht,B,kk,zz,ss,xad,xn,xc,rfl,hB,hblk,hm⟩:=hcut
  have xfc:=XFA.out.touch lr ht
  obtain⟨⟨d0,d1⟩,e0,e1,e2,e3,e4⟩:=xfc.cells
  have ltc:=xfc.lt
  have lB:=Zag hblk
  obtain⟨x0,x1,x2,x3,xf⟩:=Zak hblk
  obtain⟨q0,q1,q2,q3,qf⟩:=Zak xfc.b1
  have qf0:=qf 0
  have qf1:=qf 1
  have qf2:=qf 2
  have qf3:=qf 3
  have kd1:=xfc.tw.cell kc1 m2
  have hgc:gk<wc.heap.size:=by omega
  have nbr:rb≠w.heap.size+1:=by omega
  clear CX2 s0 s1 t0 t1 t2 t3 t4 kd0 xf qf
  cases hO:E k (Zds ns vs) ev with
  | none =>
   rw[hO] at hm
   obtain rfl:u11=.bool false:=hm
   have hev:Aside (Zk5 E k (Zds ns vs) psx.data.toList [ev,eb]=none):=by show _=_;simp only[Zk5,hO]
   have HT:Aside (Zaa (·=rb) w wc):=xfc.tw
   clear hO hX hok hokb hE hS XFA xfc hblk hx
   go_wp2
   exact bodyPost_ret (v:=.tuple #[.agg #[.int .u8 0,.int .i64 0,.string ⟨#[]⟩,.slice none 0 0],.bool false]) (by simp[results,results125,go_sem,q0,q1,q2,q3]) rfl (Zdv hev.out (Zcf HT.out (by omega) _ _ _ _))
  | some O =>
   obtain⟨v,kk1⟩:=O
   rw[hO] at hm
   obtain⟨rfl,hRV,hK1⟩:u11=.bool true∧RV wc (fun g'=>(D g'∧(g'<w.heap.size∨w.heap.size+1+1<g'))∧g'≠B) v (.agg #[.int .u8 kk,.int .i64 zz,.string ss,.slice xad xn xc])∧RK wc rb prb kk1:=hm
   obtain⟨hFv,hkk1⟩:=hE k v kk1 (Nat.le_refl _) hO
   have hev:Aside (Zk5 E k (Zds ns vs) psx.data.toList [ev,eb]=E kk1 (Zds (ns++[psx]) (vs++[v])) eb):=by show _=_;rw[Zt2 HNL.out];simp only[Zk5,hO]
   have CW:Hid (∀X:World,EqX wc X→Calls prog 124 #[.agg #[.slice nad ns.length nc,.slice vad vs.length vc],.string psx,.agg #[.int .u8 kk,.int .i64 zz,.string ss,.slice xad xn xc]] X fun en w'=>(∃a' n' b' m',en=.returned (.agg #[.slice a' (ns.length+1) n',.slice b' (vs.length+1) m'])∧RS w' (fun g'=>D g'∧g'≠w.heap.size+1) (ns++[psx]) (vs++[v]) (.agg #[.slice a' (ns.length+1) n',.slice b' (vs.length+1) m']))∧Below wc.heap.size wc w'):=fun X hQ=>by
    have hBX:=hQ.below
    have hXs:=hBX.size
    have hTX:=xfc.tw.trans hQ.touch
    refine (Zwa (fun g'=>D g'∧g'≠w.heap.size+1) ns vs _ _ psx v X ((hx.bound.touch hTX fun k' hk' e=>hDr (e ▸ hk'.1)).map fun _ _ _ _ _ g=>g.weaken fun g' hg'=>⟨hg'.1,by have:=hg'.2;omega⟩) ((hRV.weaken (D':=fun g'=>D g'∧g'≠w.heap.size+1) fun g' hg'=>⟨hg'.1.1,by rcases hg'.1.2 with h | h<;>omega⟩).below hBX) hnb (fun g' hg'=>⟨hDn g' (by omega),by omega⟩)).mono fun en w' ⟨⟨x',h1,h2⟩,h3⟩=>⟨?_,hBX.trans (h3.mono hXs)⟩
    have h2':=h2
    obtain⟨n',v',cc',rfl,sn',sv',_,_⟩:=h2'
    obtain⟨a',c',rfl⟩:=sn'.slice
    obtain⟨b',d',rfl⟩:=sv'.slice
    simp only[List.length_append,List.length_cons,List.length_nil,Nat.zero_add] at h1 h2
    exact⟨a',c',b',d',h1,h2⟩
   have CZ:Hid (∀(w3:World) (a':Option Addr) (n':Nat) (b':Option Addr) (m':Nat),RS w3 (fun g'=>D g'∧g'≠w.heap.size+1) (ns++[psx]) (vs++[v]) (.agg #[.slice a' (ns.length+1) n',.slice b' (vs.length+1) m'])→Below wc.heap.size wc w3→∀X:World,EqX w3 X→Calls prog 125 #[.pointer (some ⟨rb,0,none⟩),.int .i64 ((j1:Nat):Int),.agg #[.slice a' (ns.length+1) n',.slice b' (vs.length+1) m']] X fun en w'=>Zaa (·=rb) wc w'∧w'.heap[w.heap.size+1]?=some Zaz∧∃(kx z:Int) (s:ByteArray) (ad:Option Addr) (n c:Nat) (b:Bool),en=.returned (.tuple #[.agg #[.int .u8 kx,.int .i64 z,.string s,.slice ad n c],.bool b])∧XR rb prb (fun g'=>D g'∧g'≠w.heap.size+1) (E kk1 (Zds (ns++[psx]) (vs++[v])) eb) w' kx z s ad n c b):=fun w3 a' n' b' m' hrs hb3 X hQ=>by
    have hBX:=hb3.trans (hQ.below.mono hb3.size)
    have hXs:=hBX.size
    have hTX:=xfc.tw.trans (Zaa.of_below hBX)
    refine (hX X (fun g'=>D g'∧g'≠w.heap.size+1) kk1 eb j1 (ns++[psx]) (vs++[v]) _ hkk1 (fun h=>hDr h.1) (fun g' hg'=>⟨hDn g' (by omega),by omega⟩) (hS.touch hTX) (hK1.same (hBX.block rb (by omega))) (hrs.heap hQ.2.2.2) rep1 (hokb kk1 hkk1 v hFv)).mono fun en w' h=>?_
    obtain⟨h1,h2⟩:=Zld h
    exact⟨(Zaa.of_below hBX).trans h1,by rw[h1.block _ (by omega) (by omega),hBX.block _ (by omega)];exact xfc.b1,h2⟩
   have HT:Aside (Zaa (·=rb) w wc):=xfc.tw
   clear hO hX hok hokb hE hS XFA xfc hblk hx hK1 hRV
   go_wp2_with fail
   have nB1:B≠w.heap.size+1:=by omega
   have nB2:w.heap.size+1≠B:=by omega
   have nB3:B≠rb:=by omega
   have nk1:gk≠w.heap.size+1:=by omega
   have nk2:w.heap.size+1≠gk:=by omega
   have nr0:w.heap.size≠rb:=by omega
   have nr2:w.heap.size+1+1≠rb:=by omega
   go_region_held3 (fun w'=>w'.cell? ⟨w.heap.size+1+1,4,none⟩=some (.slice (some ⟨gk,0,none⟩) 2 ck)∧w'.cell? ⟨gk,1,none⟩=some (.int .i64 ((j1:Nat):Int))∧w'.cell? ⟨w.heap.size,0,none⟩=some (.slice nad ns.length nc)∧w'.cell? ⟨w.heap.size,1,none⟩=some (.slice vad vs.length vc)∧w'.cell? ⟨w.heap.size+1+1,2,none⟩=some (.string psx)∧w'.cell? ⟨B,0,none⟩=some (.int .u8 kk)∧w'.cell? ⟨B,1,none⟩=some (.int .i64 zz)∧w'.cell? ⟨B,2,none⟩=some (.string ss)∧w'.cell? ⟨B,3,none⟩=some (.slice xad xn xc)) (first
     | go_keep
     | exact⟨ht2.cell e4 nr2,ht2.cell kd1 m2,ht2.cell d0 nr0,ht2.cell d1 nr0,ht2.cell e2 nr2,ht2.cell x0 nB3,ht2.cell x1 nB3,ht2.cell x2 nB3,ht2.cell x3 nB3⟩
     | exact⟨Below.cellv hb3 e4,Below.cellv hb3 kd1,Below.cellv hb3 d0,Below.cellv hb3 d1,Below.cellv hb3 e2,Below.cellv hb3 x0,Below.cellv hb3 x1,Below.cellv hb3 x2,Below.cellv hb3 x3⟩)
    ((first
     |(go_at_call 125;refine (CZ.out w3 _ _ _ _ hrs hb3 _ ?_).mono ?_;(exact⟨rfl,rfl,rfl,rfl⟩);rintro e w2 ⟨ht2,hb2,kx,zx,sx,yad,yn,yc,bb,rfl,hxr⟩;obtain⟨y0,y1,y2,y3,yf⟩:=Zak hb2;have yf0:=yf 0;have yf1:=yf 1;have yf2:=yf 2;have yf3:=yf 3;have lb2:=Zag hb2;clear yf)
     |(go_at_call 124;refine (CW.out _ ?_).mono ?_;(exact⟨rfl,rfl,rfl,rfl⟩);rintro e w3 ⟨⟨a',n',b',m',rfl,hrs⟩,hb3⟩)))
   all_goals go_wp2_with fail
   all_goals exact bodyPost_ret (v:=.tuple #[.agg #[.int .u8 kx,.int .i64 zx,.string sx,.slice yad yn yc],.bool bb]) (by simp[results,results125,go_sem,y0,y1,y2,y3]) rfl (Zqc hev.out hxr (HT.out.trans ht2) (by omega) nbr)
end
end Go.Proofs.YtliapghpeoaonaaGreatDoor
