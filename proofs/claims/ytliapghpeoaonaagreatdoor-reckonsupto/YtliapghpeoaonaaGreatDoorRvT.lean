/-
  The reference: reckoning an expr: numbers, texts, names.
-/
import Derived.Test.YtliapghpeoaonaaGreatDoorRvQ
import Derived.Test.YtliapghpeoaonaaGreatDoorRefK
import Derived.Test.YtliapghpeoaonaaGreatDoorVal
set_option maxHeartbeats 4000000
set_option maxRecDepth 8000
namespace Go.Proofs.YtliapghpeoaonaaGreatDoor
open Go.Proofs.Tryz
open Go.RowKit Go.Lib
attribute [local go_sem ↓] Go.wp_at_zero Go.wp_at_succ
structure RK (w:World)(rb prb k:Nat):Prop where
 blk:∃st:Int,w.heap[rb]?=some (.cells #[.pointer (some ⟨prb,5,none⟩),.int .i64 st] 168)∧st+(k:Int)=20000
 hk:k≤20000
theorem RK.facts {w:World}{rb prb k:Nat}(h:RK w rb prb k):∃st:Int,st+(k:Int)=20000∧w.cell? ⟨rb,0,none⟩=some (.pointer (some ⟨prb,5,none⟩))∧w.cell? ⟨rb,1,none⟩=some (.int .i64 st)∧(∀j,w.frozen? ⟨rb,j,none⟩=false)∧rb<w.heap.size∧∀st':Int,∀k':Nat,st'+(k':Int)=20000→k'≤20000→RK (w.setCell ⟨rb,1,none⟩ (.int .i64 st')) rb prb k':=by
 obtain⟨st,hb,hs⟩:=h.blk
 have hk:=h.hk
 refine⟨st,hs,?_,?_,fun j=>?_,Zag hb,fun st' k' e hk'=>⟨⟨st',?_,e⟩,hk'⟩⟩
 ·unfold World.cell?;rw[hb];rfl
 ·unfold World.cell?;rw[hb];rfl
 ·unfold World.frozen?;rw[hb];rfl
 ·rw[Zau hb];rfl
theorem RK.lt {w:World}{rb prb k:Nat}(h:RK w rb prb k):rb<w.heap.size:=by
 obtain⟨st,hb,_⟩:=h.blk
 exact Zag hb
theorem RK.same {w w':World}{rb prb k:Nat}(h:RK w rb prb k)(hs:w'.heap[rb]?=w.heap[rb]?):RK w' rb prb k:=⟨by rw[hs];exact h.blk,h.hk⟩
theorem RK.below {w w':World}{rb prb k:Nat}(h:RK w rb prb k)(hb:Below w.heap.size w w'):RK w' rb prb k:=h.same (hb.block rb h.lt)
def Zct (rb prb:Nat)(D:Nat→Prop)(o:Option (PV×Nat))(w:World)(e:Ending)(w':World):Prop :=
 Zaa (·=rb) w w'∧match o with
 | none=>∃(k z:Int) (s:ByteArray) (ad:Option Addr) (n c:Nat),e=.returned (.tuple #[.agg #[.int .u8 k,.int .i64 z,.string s,.slice ad n c],.bool false])
 | some (v,k')=>∃x:Value,e=.returned (.tuple #[x,.bool true])∧RV w' D v x∧RK w' rb prb k'
theorem Zdv {rb prb:Nat}{D:Nat→Prop}{o:Option (PV×Nat)}{w w':World}{k z:Int}{s:ByteArray}{ad:Option Addr}{n c:Nat}(ho:o=none)(hb:Zaa (·=rb) w w'):Zct rb prb D o w (.returned (.tuple #[.agg #[.int .u8 k,.int .i64 z,.string s,.slice ad n c],.bool false])) w':=by
 subst ho
 exact⟨hb,_,_,_,_,_,_,rfl⟩
theorem Zgo {rb prb:Nat}{D:Nat→Prop}{o:Option (PV×Nat)}{w w':World}{v:PV}{k':Nat}{x:Value}(ho:o=some (v,k'))(hb:Zaa (·=rb) w w')(hv:RV w' D v x)(hr:RK w' rb prb k'):Zct rb prb D o w (.returned (.tuple #[x,.bool true])) w':=by
 subst ho
 exact⟨hb,_,rfl,hv,hr⟩
structure Zht (w0:World)(rb prb:Nat)(fv pv:Value)(fs:List Ze8)(ps:List Zaw)(fns:List Fn)(w:World):Prop where
 pm:PM w0 prb fv pv fs ps fns
 hb:Below w0.heap.size w0 w
 hr:w0.heap.size≤rb
theorem Zht.pm' {w0 w:World}{rb prb:Nat}{fv pv:Value}{fs:List Ze8}{ps:List Zaw}{fns:List Fn}(h:Zht w0 rb prb fv pv fs ps fns w):PM w prb fv pv fs ps fns:=h.pm.below h.hb
theorem Zht.touch {w0 w w':World}{rb prb:Nat}{fv pv:Value}{fs:List Ze8}{ps:List Zaw}{fns:List Fn}(h:Zht w0 rb prb fv pv fs ps fns w)(ht:Zaa (·=rb) w w'):Zht w0 rb prb fv pv fs ps fns w' :=
 ⟨h.pm,Zaa.fresh h.hb ht (fun k hk e=>by have:=h.hr;omega),h.hr⟩
section
variable {w0 w:World} {rb prb:Nat} {fv pv:Value} {fs:List Ze8} {ps:List Zaw} {fns:List Fn}
theorem Zwh (D:Nat→Prop)(hR:RK w rb prb 0)(i:Int)(nsl vsl:Value)(nad vad:Option Addr)(nn nc vn vc:Nat)(h1:nsl=.slice nad nn nc)(h2:vsl=.slice vad vn vc):
  Calls prog 125 #[.pointer (some ⟨rb,0,none⟩),.int .i64 i,.agg #[nsl,vsl]] w (Zct rb prb D none w):=by
 obtain⟨st,hst,r0,r1,rf,lr,hset⟩:=hR.facts
 have hst2:st=20000:=by omega
 subst hst2
 subst h1 h2
 have f1:=rf 1
 have n0:w.heap.size≠rb:=by omega
 have n1:w.heap.size+1≠rb:=by omega
 clear hset hst
 go_enter func125,ntmps125
 go_wp2
 exact bodyPost_ret (v:=.tuple #[.agg #[.int .u8 0,.int .i64 0,.string ⟨#[]⟩,.slice none 0 0],.bool false]) (by simp[results,results125,go_sem]) rfl (Zdv rfl ((((Zaa.refl (·=rb) w).setCell (p:=⟨rb,1,none⟩) (Or.inl rfl) _).alloc _).alloc _))
theorem Zc4 {w:World}(h:PM w prb fv pv fs ps fns){i:Nat}{p:Zaw}(hp:ps[i]?=some p):∃g c',pv=.slice (some ⟨g,0,none⟩) ps.length c'∧ps.length≤c'∧c'≤maxLen∧i<ps.length∧w.cell? ⟨g,i*5,none⟩=some (.string p.op)∧w.cell? ⟨g,i*5+1,none⟩=some (.int .i64 p.n)∧w.cell? ⟨g,i*5+2,none⟩=some (.string p.s)∧w.cell? ⟨g,i*5+3,none⟩=some (.int .i64 ((p.at_:Nat):Int))∧w.cell? ⟨g,i*5+4,none⟩=some p.kv:=by
 obtain⟨hi,rfl⟩:=List.getElem?_eq_some_iff.1 hp
 obtain⟨g,c',h1,h2,h3,c⟩:=h.part i hi
 exact⟨g,c',h1,h2,h3,hi,c⟩
theorem Z0k (D:Nat→Prop)(hS:Zht w0 rb prb fv pv fs ps fns w){k:Nat}(hR:RK w rb prb (k+1))(i:Nat)(p:Zaw)(hp:ps[i]?=some p)(hkv:p.kv=.slice none 0 0)(nsl vsl:Value)(nad vad:Option Addr)(nn nc vn vc:Nat)(h1:nsl=.slice nad nn nc)(h2:vsl=.slice vad vn vc)(v:PV)
  (hv:(p.op.data.toList=[49]∧v=.num p.n)∨(p.op.data.toList=[39]∧v=.txt p.s.data.toList)) :
  Calls prog 125 #[.pointer (some ⟨rb,0,none⟩),.int .i64 ((i:Nat):Int),.agg #[nsl,vsl]] w (Zct rb prb D (some (v,k)) w):=by
 obtain⟨st,hst,r0,r1,rf,lr,hset⟩:=hR.facts
 have hk:=hR.hk
 have hsa:0≤st:=by omega
 have hsb:st≤19999:=by omega
 have HST:Aside (RK (w.setCell ⟨rb,1,none⟩ (.int .i64 (st+1))) rb prb k):=hset (st+1) k (by omega) (by omega)
 clear hset hst
 have pm:=hS.pm'
 have c6:=pm.c6
 obtain⟨g,c',rfl,hc1,hc2,hi,k0,k1,k2,k3,k4⟩:=Zc4 pm hp
 rw[hkv] at k4
 have lg:=Zae k0
 have lp:=Zae c6
 simp only at lg lp
 have hlt0:g<w0.heap.size:=by
  have h0:=Zc4 hS.pm hp
  obtain⟨g',c2,e,_,_,_,q0,_⟩:=h0
  simp only[Value.slice.injEq,Option.some.injEq,Addr.mk.injEq,and_true,true_and] at e
  obtain⟨rfl,_⟩:=e
  have:=Zae q0
  simpa using this
 have hlp0:prb<w0.heap.size:=by have:=Zae hS.pm.c6;simpa using this
 have hr:=hS.hr
 have hf:=pm.hp
 subst h1 h2
 have f1:=rf 1
 have n0:w.heap.size≠rb:=by omega
 have n1:w.heap.size+1≠rb:=by omega
 have n2:w.heap.size≠g:=by omega
 have n3:w.heap.size+1≠g:=by omega
 have n4:w.heap.size≠prb:=by omega
 have n5:w.heap.size+1≠prb:=by omega
 have n6:rb≠g:=by omega
 have n7:rb≠prb:=by omega
 have n8:g≠rb:=by omega
 have n9:prb≠rb:=by omega
 unfold maxLen at hc2
 generalize p.op=op at *
 generalize p.n=pn at *
 generalize p.s=psx at *
 generalize p.at_=pa at *
 rcases hv with ⟨ho,rfl⟩ | ⟨ho,rfl⟩
 ·rw[Zeo ho] at k0
  go_enter func125,ntmps125
  go_wp2
  exact bodyPost_ret (v:=.tuple #[.agg #[.int .u8 110,.int .i64 pn,.string ⟨#[]⟩,.slice none 0 0],.bool true]) (by simp[results,results125,go_sem]) rfl (Zgo rfl (((((Zaa.refl (·=rb) w).setCell (p:=⟨rb,1,none⟩) (Or.inl rfl) _).alloc _).alloc _).alloc _) (by rw[RV]) (((HST.out.below (Zab _ _)).below (Zab _ _)).below (Zab _ _)))
 ·rw[Zeo ho] at k0
  go_enter func125,ntmps125
  go_wp2
  exact bodyPost_ret (v:=.tuple #[.agg #[.int .u8 116,.int .i64 0,.string psx,.slice none 0 0],.bool true]) (by simp[results,results125,go_sem]) rfl (Zgo rfl (((((Zaa.refl (·=rb) w).setCell (p:=⟨rb,1,none⟩) (Or.inl rfl) _).alloc _).alloc _).alloc _) (by rw[RV];exact⟨_,rfl,rfl⟩) (((HST.out.below (Zab _ _)).below (Zab _ _)).below (Zab _ _)))
end
section
variable {w0 w:World} {rb prb:Nat} {fv pv:Value} {fs:List Ze8} {ps:List Zaw} {fns:List Fn}
theorem RS.bound {w:World}{D:Nat→Prop}{ns:List ByteArray}{vs:List PV}{x:Value}(h:RS w D ns vs x):RS w (fun g=>D g∧g<w.heap.size) ns vs x:=h.map fun _ _ _ _ _ g=>g.keep (w':=w) fun _ _ _=>rfl
theorem RV.bound {w:World}{D:Nat→Prop}{v:PV}{x:Value}(h:RV w D v x):RV w (fun g=>D g∧g<w.heap.size) v x:=h.map fun _ _ _ g=>g.keep (w':=w) fun _ _ _=>rfl
theorem RVs.bound {w:World}{D:Nat→Prop}{v:List PV}{x:List Value}(h:RVs w D v x):RVs w (fun g=>D g∧g<w.heap.size) v x:=h.map fun _ _ _ g=>g.keep (w':=w) fun _ _ _=>rfl
theorem Zhb {W X:World}{B:Nat}(h:W.heap[B]?=some Zaz)(hb:Below W.heap.size W X):X.cell? ⟨B,0,none⟩=some (.int .u8 0)∧X.cell? ⟨B,1,none⟩=some (.int .i64 0)∧X.cell? ⟨B,2,none⟩=some (.string ⟨#[]⟩)∧X.cell? ⟨B,3,none⟩=some (.slice none 0 0)∧(∀j,X.frozen? ⟨B,j,none⟩=false)∧B<X.heap.size:=by
 have h2:X.heap[B]?=some Zaz:=by rw[hb.block B (Zag h)];exact h
 obtain⟨a,b,c,d,e⟩:=Zak h2
 exact⟨a,b,c,d,e,Zag h2⟩
theorem rx_var (D:Nat→Prop)(hDr:¬ D rb)(hS:Zht w0 rb prb fv pv fs ps fns w){k:Nat}(hR:RK w rb prb (k+1))(i:Nat)(p:Zaw)(hp:ps[i]?=some p)(hkv:p.kv=.slice none 0 0)(ns:List ByteArray)(vs:List PV)(x:Value)(hx:RS w D ns vs x)(hl:ns.length≤100000)(v:PV)(ho:p.op.data.toList=[97])(hv:Zey (Zds ns vs) p.s.data.toList=some v):
  Calls prog 125 #[.pointer (some ⟨rb,0,none⟩),.int .i64 ((i:Nat):Int),x] w (Zct rb prb D (some (v,k)) w):=by
 have hx0:=hx
 obtain⟨nsl,vsl,xcs,rfl,hx2,hx3,hx4,hx5⟩:=hx0
 obtain⟨nad,nc,h1⟩:=hx2.slice
 obtain⟨vad,vc,h2⟩:=hx3.slice
 obtain⟨st,hst,r0,r1,rf,lr,hset⟩:=hR.facts
 have hk:=hR.hk
 have hsa:0≤st:=by omega
 have hsb:st≤19999:=by omega
 have HST:Aside (RK (w.setCell ⟨rb,1,none⟩ (.int .i64 (st+1))) rb prb k):=hset (st+1) k (by omega) (by omega)
 clear hset hst
 have pm:=hS.pm'
 have c6:=pm.c6
 obtain⟨g,c',rfl,hc1,hc2,hi,k0,k1,k2,k3,k4⟩:=Zc4 pm hp
 rw[hkv] at k4
 have lg:=Zae k0
 have lp:=Zae c6
 simp only at lg lp
 have hlt0:g<w0.heap.size:=by
  have h0:=Zc4 hS.pm hp
  obtain⟨g',c2,e,_,_,_,q0,_⟩:=h0
  simp only[Value.slice.injEq,Option.some.injEq,Addr.mk.injEq,and_true,true_and] at e
  obtain⟨rfl,_⟩:=e
  have:=Zae q0
  simpa using this
 have hlp0:prb<w0.heap.size:=by have:=Zae hS.pm.c6;simpa using this
 have hr:=hS.hr
 have hf:=pm.hp
 subst h1 h2
 clear hx2 hx3 hx4 hx5
 have f1:=rf 1
 have n0:w.heap.size≠rb:=by omega
 have n1:w.heap.size+1≠rb:=by omega
 have n2:w.heap.size≠g:=by omega
 have n3:w.heap.size+1≠g:=by omega
 have n4:w.heap.size≠prb:=by omega
 have n5:w.heap.size+1≠prb:=by omega
 have n6:rb≠g:=by omega
 have n7:rb≠prb:=by omega
 have n8:g≠rb:=by omega
 have n9:prb≠rb:=by omega
 unfold maxLen at hc2
 generalize p.op=op at *
 generalize p.n=pn at *
 generalize p.s=psx at *
 generalize p.at_=pa at *
 rw[Zeo ho] at k0
 have hT:Zaa (·=rb) w ((((w.setCell ⟨rb,1,none⟩ (.int .i64 (st+1))).alloc (Zbr (.slice nad ns.length nc) (.slice vad vs.length vc))).alloc Zaz).alloc (.cells #[.string ⟨#[97]⟩,.int .i64 pn,.string psx,.int .i64 ((pa:Nat):Int),.slice none 0 0] 322)):=(((((Zaa.refl (·=rb) w).setCell (p:=⟨rb,1,none⟩) (Or.inl rfl) _).alloc _).alloc _).alloc _)
 have cof:=of_any (fun g=>D g∧g<w.heap.size) ns vs _ psx v _ (hx.bound.touch hT (fun k hk e=>hDr (e ▸ hk.1))) hl hv
 have hz:((((w.setCell ⟨rb,1,none⟩ (.int .i64 (st+1))).alloc (Zbr (.slice nad ns.length nc) (.slice vad vs.length vc))).alloc Zaz).alloc (.cells #[.string ⟨#[97]⟩,.int .i64 pn,.string psx,.int .i64 ((pa:Nat):Int),.slice none 0 0] 322)).heap[w.heap.size+1]?=some Zaz:=by
  rw[Za0 _ _ _ (by simp)]
  have:=heap_alloc_new ((w.setCell ⟨rb,1,none⟩ (.int .i64 (st+1))).alloc (Zbr (.slice nad ns.length nc) (.slice vad vs.length vc))) Zaz
  simpa[Ze5] using this
 have HX:Aside (RS w D ns vs (.agg #[.slice nad ns.length nc,.slice vad vs.length vc])):=hx
 have HK:Aside (RK ((((w.setCell ⟨rb,1,none⟩ (.int .i64 (st+1))).alloc (Zbr (.slice nad ns.length nc) (.slice vad vs.length vc))).alloc Zaz).alloc (.cells #[.string ⟨#[97]⟩,.int .i64 pn,.string psx,.int .i64 ((pa:Nat):Int),.slice none 0 0] 322)) rb prb k):=(((HST.out.below (Zab _ _)).below (Zab _ _)).below (Zab _ _))
 clear hx hv hR hS pm
 go_enter func125,ntmps125
 go_wp2_with (go_at_call 169;refine cof.mono ?_;rintro e w2 ⟨⟨y,rfl,hy⟩,hb2⟩;obtain⟨kk,zz,ss,xad,xn,xc,rfl,hkk⟩:=hy.parts;obtain⟨q0,q1,q2,q3,qf,ll⟩:=Zhb hz hb2;have ne9:w.heap.size+1≠w2.heap.size:=(by omega))
 refine bodyPost_ret (v:=.tuple #[.agg #[.int .u8 (kk:Int),.int .i64 zz,.string ss,.slice xad xn xc],.bool true]) (by simp[results,results125,go_sem,q0,q1,q2,q3,ll]) rfl (Zgo rfl ?_ ?_ ?_)
 ·exact ((((hT.trans (Zaa.of_below hb2)).setCell (p:=⟨w.heap.size+1,0,none⟩) (Or.inr (by show w.heap.size≤w.heap.size+1;omega)) _).setCell (p:=⟨w.heap.size+1,1,none⟩) (Or.inr (by show w.heap.size≤w.heap.size+1;omega)) _).setCell (p:=⟨w.heap.size+1,2,none⟩) (Or.inr (by show w.heap.size≤w.heap.size+1;omega)) _).setCell (p:=⟨w.heap.size+1,3,none⟩) (Or.inr (by show w.heap.size≤w.heap.size+1;omega)) _ |>.alloc _
 ·exact ((hy.res (b:=w.heap.size+1) (fun k hk=>by have:=hk.2;omega) _ _ _ _).weaken (fun k hk=>hk.1)).below (Zab _ _)
 ·refine (RK.same (HK.out.below hb2) (Zej _ _ _ _ _ _ rb (by omega))).below (Zab _ _)
end
theorem Zuj:∀(vs:List PV),(∀v∈vs,wtV v≤600)→Zbh vs≤600*vs.length
 | [],_=>by simp[Zbh]
 | v::r,h=>by
  have h1:=h v (by simp)
  have h2:=Zuj r fun u hu=>h u (by simp[hu])
  rw[Zbh,List.length_cons]
  omega
abbrev partOx (p:Zaw):Obj:=.cells #[.string p.op,.int .i64 p.n,.string p.s,.int .i64 ((p.at_:Nat):Int),p.kv] 322
section
variable {w:World} {rb prb:Nat}
theorem rf_list (D:Nat→Prop){k:Nat}(hR:RK w rb prb k)(pn:Int)(psx:ByteArray)(pa:Nat)(kad:Option Addr)(kn kc:Nat)(vs:List PV)(sl:Value)(cs:List Value)(hseg:Zar w D 46 4 sl vs.length cs)(hvs:RVs w D vs cs)(hf:∀v∈vs,wtV v≤600)(hl:vs.length≤100000):
  Calls prog 170 #[.pointer (some ⟨rb,0,none⟩),.agg #[.string ⟨#[108,105,115,116]⟩,.int .i64 pn,.string psx,.int .i64 ((pa:Nat):Int),.slice kad kn kc],sl] w (Zct rb prb D (Zcu (some (vs,k))) w):=by
 obtain⟨ad,cap,rfl⟩:=hseg.slice
 have hwt:=Zuj vs hf
 have lr:=hR.lt
 have hV:RV w D (.lst vs) (.agg #[.int .u8 108,.int .i64 0,.string ⟨#[]⟩,.slice ad vs.length cap]):=by rw[RV];exact⟨_,cs,rfl,hseg,hvs⟩
 have hB:Below w.heap.size w ((w.alloc (.cells #[.string ⟨#[108,105,115,116]⟩,.int .i64 pn,.string psx,.int .i64 ((pa:Nat):Int),.slice kad kn kc] 322)).alloc Zaz):=below2 w _ _
 have clt:=Zj3 _ (.lst vs) _ _ (by rw[wtV];omega) (hV.bound.below hB)
 have hz:((w.alloc (.cells #[.string ⟨#[108,105,115,116]⟩,.int .i64 pn,.string psx,.int .i64 ((pa:Nat):Int),.slice kad kn kc] 322)).alloc Zaz).heap[w.heap.size+1]?=some Zaz:=by
  have:=heap_alloc_new (w.alloc (.cells #[.string ⟨#[108,105,115,116]⟩,.int .i64 pn,.string psx,.int .i64 ((pa:Nat):Int),.slice kad kn kc] 322)) Zaz
  simpa using this
 have HV:Aside (RV w (fun g=>D g∧g<w.heap.size) (.lst vs) (.agg #[.int .u8 108,.int .i64 0,.string ⟨#[]⟩,.slice ad vs.length cap])):=hV.bound
 have HR:Aside (RK w rb prb k):=hR
 clear hV hseg hvs hf hR
 by_cases hw:wtV (.lst vs)≤600
 ·have ho:Zcu (some (vs,k))=some (.lst vs,k):=by simp[Zcu,hw]
  rw[ho]
  rw[decide_eq_true hw] at clt
  clear ho hw hwt
  go_enter func170,ntmps170
  go_wp2_with (go_at_call 205;refine clt.mono ?_;rintro e w2 ⟨rfl,hb2⟩;obtain⟨q0,q1,q2,q3,qf,ll⟩:=Zhb hz hb2)
  refine bodyPost_ret (v:=.tuple #[.agg #[.int .u8 108,.int .i64 0,.string ⟨#[]⟩,.slice ad vs.length cap],.bool true]) (by simp[results,results170,go_sem,q0,q1,q2,q3]) rfl (Zgo rfl ?_ ?_ ?_)
  ·exact Zaa.of_below (Zbi (hB.trans (hb2.mono (by simp;omega))) (Nat.le_refl _) (by omega) _ _ _ _)
  ·exact ((((HV.out.below hB).below hb2).res (b:=w.heap.size+1) (fun k hk=>by have:=hk.2;omega) _ _ _ _).weaken (fun k hk=>hk.1))
  ·exact RK.same ((HR.out.below hB).below hb2) (Zej _ _ _ _ _ _ rb (by omega))
 ·have ho:Zcu (some (vs,k))=none:=by simp[Zcu,hw]
  rw[ho]
  rw[decide_eq_false hw] at clt
  clear ho hw hwt
  go_enter func170,ntmps170
  go_wp2_with (go_at_call 205;refine clt.mono ?_;rintro e w2 ⟨rfl,hb2⟩;obtain⟨q0,q1,q2,q3,qf,ll⟩:=Zhb hz hb2)
  exact bodyPost_ret (v:=.tuple #[.agg #[.int .u8 108,.int .i64 0,.string ⟨#[]⟩,.slice ad vs.length cap],.bool false]) (by simp[results,results170,go_sem,q0,q1,q2,q3]) rfl (Zdv rfl (Zaa.of_below (Zbi (hB.trans (hb2.mono (by simp;omega))) (Nat.le_refl _) (by omega) _ _ _ _)))
end
theorem Zv8:∀(l:List PV) (i:Nat) (v:PV),Zbh (l.set i v)≤Zbh l+wtV v
 | [],i,v=>by simp[Zbh]
 | u::r,0,v=>by rw[List.set_cons_zero,Zbh,Zbh];omega
 | u::r,i+1,v=>by
  have:=Zv8 r i v
  rw[List.set_cons_succ,Zbh,Zbh]
  omega
theorem Zx0 {wd:List UInt8}{vs:List PV}{v:PV}(h:Za1 wd vs=some v)(hf:∀u∈vs,wtV u≤600):wtV v≤2000:=by
 have hbit:∀b,wtV (Z3m b)≤2000:=fun b=>by rw[Z3m,wtV];omega
 match vs,h,hf with
 | [a],h,hf =>
  cases a with
  | num z=>cases h
  | txt b=>cases h;rw[wtV];omega
  | lst l=>cases h;rw[wtV];omega
 | [a,b],h,hf =>
  have ha:=hf a (by simp)
  have hb:=hf b (by simp)
  simp only[Za1,op2] at h
  split at h
  ·cases h;exact hbit _
  split at h
  ·cases a with
   | num z=>cases h
   | txt z=>cases h
   | lst l =>
    cases b with
    | num i =>
     simp only[atV] at h
     split at h
     ·have:=Zmg (List.mem_of_getElem? h)
      rw[wtV] at ha
      omega
     ·cases h
    | txt z=>cases h
    | lst z=>cases h
  split at h
  ·cases a with
   | num z=>cases h
   | txt x =>
    cases b with
    | num i=>cases h
    | txt y =>
     cases h
     rw[wtV] at ha hb ⊢
     simp
     omega
    | lst z=>cases h
   | lst x =>
    cases b with
    | num i=>cases h
    | txt y=>cases h
    | lst y =>
     cases h
     rw[wtV] at ha hb ⊢
     rw[Zgp]
     omega
  ·cases a with
   | num x =>
    cases b with
    | num y =>
     cases h
     unfold Zyi
     repeat' split
     all_goals first | exact hbit _ | (rw[wtV];omega)
    | txt y=>cases h
    | lst y=>cases h
   | txt x=>cases h
   | lst x=>cases h
 | [a,b,c],h,hf =>
  have ha:=hf a (by simp)
  have hc:=hf c (by simp)
  cases a with
  | num x=>cases h
  | txt x=>cases h
  | lst l =>
   cases b with
   | txt y=>cases h
   | lst y=>cases h
   | num i =>
    simp only[Za1,set3,Zzt] at h
    split at h
    ·cases h
     have:=Zv8 l i.toNat c
     rw[wtV] at ha ⊢
     omega
    ·cases h
 | [],h,_=>cases h
 | _::_::_::_::_,h,_=>cases h
section
variable {w:World} {rb prb:Nat}
theorem Z0p (D:Nat→Prop)(hDn:∀g,w.heap.size≤g→D g){k:Nat}(hR:RK w rb prb k)(op:ByteArray)(pn:Int)(psx:ByteArray)(pa:Nat)(kad:Option Addr)(kn kc:Nat)(vs:List PV)(sl:Value)(cs:List Value)(hseg:Zar w D 46 4 sl vs.length cs)(hvs:RVs w D vs cs)(hf:∀v∈vs,wtV v≤600)(hw:Zv4 op.data.toList vs.length)
  (o1:(op.toList==[108,105,115,116])=false) (o2:(op.toList==[99,97,108,108])=false) (o3:(op.toList==[109,97,112])=false) :
  Calls prog 170 #[.pointer (some ⟨rb,0,none⟩),.agg #[.string op,.int .i64 pn,.string psx,.int .i64 ((pa:Nat):Int),.slice kad kn kc],sl] w (Zct rb prb D ((Zeg (Za1 op.data.toList vs)).map fun v=>(v,k)) w):=by
 obtain⟨ad,cap,rfl⟩:=hseg.slice
 have lr:=hR.lt
 have hB:Below w.heap.size w ((w.alloc (.cells #[.string op,.int .i64 pn,.string psx,.int .i64 ((pa:Nat):Int),.slice kad kn kc] 322)).alloc Zaz):=below2 w _ _
 have hz:((w.alloc (.cells #[.string op,.int .i64 pn,.string psx,.int .i64 ((pa:Nat):Int),.slice kad kn kc] 322)).alloc Zaz).heap[w.heap.size+1]?=some Zaz:=by
  have:=heap_alloc_new (w.alloc (.cells #[.string op,.int .i64 pn,.string psx,.int .i64 ((pa:Nat):Int),.slice kad kn kc] 322)) Zaz
  simpa using this
 have csm:=Zxy (fun g=>D g∧g≠w.heap.size+1) op vs _ cs _ hw ((((hseg.keep (w':=w) fun _ _ _=>rfl).weaken (D':=fun g=>D g∧g≠w.heap.size+1) fun g hg=>⟨hg.1,by have:=hg.2;omega⟩)).below hB) ((hvs.bound.weaken (D':=fun g=>D g∧g≠w.heap.size+1) fun g hg=>⟨hg.1,by have:=hg.2;omega⟩).below hB) hf (fun g hg=>by simp at hg;exact⟨hDn g (by omega),by omega⟩)
 have HR:Aside (RK w rb prb k):=hR
 have hwt:∀v,Za1 op.data.toList vs=some v→wtV v≤2000:=fun v hv=>Zx0 hv hf
 clear hseg hvs hf hR hw
 cases hO:Za1 op.data.toList vs with
 | none =>
  rw[hO] at csm
  have cs2:Calls prog 206 #[.string op,.slice ad vs.length cap] ((w.alloc (.cells #[.string op,.int .i64 pn,.string psx,.int .i64 ((pa:Nat):Int),.slice kad kn kc] 322)).alloc Zaz) fun e w'=>Below ((w.alloc (.cells #[.string op,.int .i64 pn,.string psx,.int .i64 ((pa:Nat):Int),.slice kad kn kc] 322)).alloc Zaz).heap.size ((w.alloc (.cells #[.string op,.int .i64 pn,.string psx,.int .i64 ((pa:Nat):Int),.slice kad kn kc] 322)).alloc Zaz) w'∧∃(k z:Int) (s:ByteArray) (ad:Option Addr) (n c:Nat),e=.returned (.tuple #[.agg #[.int .u8 k,.int .i64 z,.string s,.slice ad n c],.bool false]):=csm
  clear csm hO hwt
  go_enter func170,ntmps170
  go_wp2_with (go_at_call 206;refine cs2.mono ?_;rintro e w2 ⟨hb2,kk,zz,ss,xad,xn,xc,rfl⟩;obtain⟨q0,q1,q2,q3,qf,ll⟩:=Zhb hz hb2;have ne9:w.heap.size+1≠w2.heap.size:=(by omega))
  exact bodyPost_ret (v:=.tuple #[.agg #[.int .u8 0,.int .i64 0,.string ⟨#[]⟩,.slice none 0 0],.bool false]) (by simp[results,results170,go_sem,q0,q1,q2,q3,ll]) rfl (Zdv rfl (Zaa.of_below ((Zbi (hB.trans (hb2.mono (by simp;omega))) (Nat.le_refl _) (by omega) _ _ _ _).alloc (by have:=hb2.size;simp at this ⊢;omega) _)))
 | some v =>
  rw[hO] at csm
  have hv2:=hwt v hO
  have cs2:Calls prog 206 #[.string op,.slice ad vs.length cap] ((w.alloc (.cells #[.string op,.int .i64 pn,.string psx,.int .i64 ((pa:Nat):Int),.slice kad kn kc] 322)).alloc Zaz) fun e w'=>Below ((w.alloc (.cells #[.string op,.int .i64 pn,.string psx,.int .i64 ((pa:Nat):Int),.slice kad kn kc] 322)).alloc Zaz).heap.size ((w.alloc (.cells #[.string op,.int .i64 pn,.string psx,.int .i64 ((pa:Nat):Int),.slice kad kn kc] 322)).alloc Zaz) w'∧∃x:Value,e=.returned (.tuple #[x,.bool true])∧RV w' (fun g=>D g∧g≠w.heap.size+1) v x:=csm
  clear csm hO hwt
  by_cases hl:wtV v≤600
  ·have ho:(Zeg (some v)).map (fun v=>(v,k))=some (v,k):=by simp[Zeg,hl]
   rw[ho]
   clear ho
   go_enter func170,ntmps170
   go_wp2_with (first
    |(go_at_call 206;refine cs2.mono ?_;rintro e w2 ⟨hb2,x,rfl,hx⟩;obtain⟨kk,zz,ss,xad,xn,xc,rfl,hkk⟩:=hx.parts;have clt:=Zj3 _ v _ _ (by omega) (hx.below (Zab w2 (Zce (.int .u8 (kk:Int)) (.int .i64 zz) (.string ss) (.slice xad xn xc))));rw[decide_eq_true hl] at clt)
    |(go_at_call 205;refine clt.mono ?_;rintro e w3 ⟨rfl,hb3⟩;have hb23:=(hb2.alloc hb2.size _).trans (hb3.mono (by have:=hb2.size;simp at this ⊢;omega));obtain⟨q0,q1,q2,q3,qf,ll⟩:=Zhb hz hb23))
   refine bodyPost_ret (v:=.tuple #[.agg #[.int .u8 (kk:Int),.int .i64 zz,.string ss,.slice xad xn xc],.bool true]) (by simp[results,results170,go_sem,q0,q1,q2,q3]) rfl (Zgo rfl ?_ ?_ ?_)
   ·exact Zaa.of_below (Zbi (hB.trans (hb23.mono (by simp;omega))) (Nat.le_refl _) (by omega) _ _ _ _)
   ·exact ((((hx.below (Zab w2 _)).below hb3).res (b:=w.heap.size+1) (fun k hk=>hk.2) _ _ _ _).weaken (fun k hk=>hk.1))
   ·exact RK.same ((HR.out.below hB).below hb23) (Zej _ _ _ _ _ _ rb (by omega))
  ·have ho:(Zeg (some v)).map (fun v=>(v,k))=none:=by simp[Zeg,hl]
   rw[ho]
   clear ho
   go_enter func170,ntmps170
   go_wp2_with (first
    |(go_at_call 206;refine cs2.mono ?_;rintro e w2 ⟨hb2,x,rfl,hx⟩;obtain⟨kk,zz,ss,xad,xn,xc,rfl,hkk⟩:=hx.parts;have clt:=Zj3 _ v _ _ (by omega) (hx.below (Zab w2 (Zce (.int .u8 (kk:Int)) (.int .i64 zz) (.string ss) (.slice xad xn xc))));rw[decide_eq_false hl] at clt)
    |(go_at_call 205;refine clt.mono ?_;rintro e w3 ⟨rfl,hb3⟩;have hb23:=(hb2.alloc hb2.size _).trans (hb3.mono (by have:=hb2.size;simp at this ⊢;omega));obtain⟨q0,q1,q2,q3,qf,ll⟩:=Zhb hz hb23))
   exact bodyPost_ret (v:=.tuple #[.agg #[.int .u8 (kk:Int),.int .i64 zz,.string ss,.slice xad xn xc],.bool false]) (by simp[results,results170,go_sem,q0,q1,q2,q3]) rfl (Zdv rfl (Zaa.of_below (Zbi (hB.trans (hb23.mono (by simp;omega))) (Nat.le_refl _) (by omega) _ _ _ _)))
end
end Go.Proofs.YtliapghpeoaonaaGreatDoor
