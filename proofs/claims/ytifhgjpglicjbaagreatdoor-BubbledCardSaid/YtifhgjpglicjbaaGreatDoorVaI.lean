/-
  The program: reading a value: lists.
-/
import Derived.Test.YtifhgjpglicjbaaGreatDoorVaC
import Derived.Test.YtifhgjpglicjbaaGreatDoorNamJ
set_option maxHeartbeats 4000000
set_option maxRecDepth 8000
namespace Go.Proofs.YtifhgjpglicjbaaGreatDoor
open Go.Proofs.Tryz
open Go.RowKit
attribute [local go_sem ↓] Go.wp_at_zero Go.wp_at_succ
theorem Tryz.infoVVal:(prog.info? 74).map (fun i=>(i.zero,i.size,i.bytes))=some (some .nilIface,1,16):=by kernel_rfl
theorem Touch.grown {S:Nat→Prop}{w a b:World}{row:Option Nat}(h:Touch S w a)(hg:a.grownBy b row)(hr:∀k,row=some k→w.heap.size≤k):Touch S w b:=by
 refine⟨hg.os.trans h.os,hg.tape.trans h.tape,hg.output.trans h.output,Nat.le_trans h.size hg.size,fun k hk hS=>?_⟩
 rw[hg.block k (Nat.lt_of_lt_of_le hk h.size) (fun e=>by have:=hr k e.symm;omega)]
 exact h.block k hk hS
theorem wtVs_app:∀(a b:List PV),wtVs (a++b)=wtVs a+wtVs b
 | [],b=>by simp[wtVs]
 | v::r,b=>by rw[List.cons_append,wtVs,wtVs,wtVs_app r b];omega
theorem vrow_step {D:Nat→Prop}{w4 w6:World}{o:Obj}{ad:Option Addr}{n cap:Nat}{vs:List PV}{cs:List Value}{v:PV}{x v':Value}(_hlt:∀g,(Value.slice ad n cap).ownBlock=some g→g<w4.heap.size)
  (val4:VLs w4 (fun b=>D b∧some b≠(Value.slice ad n cap).ownBlock) vs cs) (hx:VL w4 (fun b=>D b∧some b≠(Value.slice ad n cap).ownBlock) v x)
  (hgrow:(w4.alloc o).grownBy w6 (Value.slice ad n cap).ownBlock) (hob:v'.ownBlock=(Value.slice ad n cap).ownBlock∨v'.ownBlock=some (w4.alloc o).heap.size) :
  VLs w6 (fun b=>D b∧some b≠v'.ownBlock) (vs++[v]) (cs++[x]):=by
 have h5:VLs w4 (fun b=>D b∧some b≠(Value.slice ad n cap).ownBlock) (vs++[v]) (cs++[x]):=VLs.append (VLs.one hx) val4
 refine h5.map fun sl m xs hseg=>?_
 have k1:=hseg.keep (w':=w6) fun k hk hlt2=>by rw[hgrow.block k (by simp;omega) hk.2];exact Below.heap_alloc _ _ _ hlt2
 refine k1.weaken fun k hk=>⟨hk.1.1,?_⟩
 rcases hob with h | h
 ·rw[h];exact hk.1.2
 ·rw[h]
  intro e
  have:=hk.2
  simp at e
  omega
structure LB (D:Nat→Prop)(w wr:World)(rb:Nat)(s:ByteArray)(q k:Nat)(ad:Option Addr)(cap:Nat)(vs:List PV)(cs:List Value):Prop where
 own:wr.ownsRow w.heap.size 74 1 (.slice ad vs.length cap) vs.length cs
 val:VLs wr (fun b=>D b∧some b≠(Value.slice ad vs.length cap).ownBlock) vs cs
 tch:Touch (·=rb) w wr
 rd:RdB wr rb s q (k+wtVs vs)
 le:k+wtVs vs≤600
theorem LB.row {D:Nat→Prop}{w wr:World}{rb:Nat}{s:ByteArray}{q k:Nat}{ad:Option Addr}{cap:Nat}{vs:List PV}{cs:List Value}(h:LB D w wr rb s q k ad cap vs cs):∀g,(Value.slice ad vs.length cap).ownBlock=some g→w.heap.size≤g∧g<wr.heap.size:=fun g e=>h.own.lt g e
theorem LB.touch {D:Nat→Prop}{w wr X:World}{rb:Nat}{s:ByteArray}{q q' k:Nat}{ad:Option Addr}{cap:Nat}{vs:List PV}{cs:List Value}(h:LB D w wr rb s q k ad cap vs cs)(hD:¬ D rb)(hr:rb<w.heap.size)(ht:Touch (·=rb) wr X)(hX:RdB X rb s q' (k+wtVs vs)):LB D w X rb s q' k ad cap vs cs :=
 ⟨owns_keep h.own fun g hg=>ht.block g (h.row g hg).2 (by have:=(h.row g hg).1;show ¬ g=rb;omega),h.val.touch ht fun g hg e=>hD (by have e:g=rb:=e;rw[←e];exact hg.1),h.tch.trans ht,hX,h.le⟩
theorem LB.step {D:Nat→Prop}{w wr w4 w6:World}{rb:Nat}{s:ByteArray}{q q' k:Nat}{ad:Option Addr}{cap:Nat}{vs:List PV}{cs:List Value}{o:Obj}{v:PV}{x v':Value}(h:LB D w wr rb s q k ad cap vs cs)(hD:¬ D rb)(hr:rb<w.heap.size)(ht:Touch (·=rb) wr w4)(hX:RdB w4 rb s q' (k+wtVs vs+wtV v))(hle:k+wtVs vs+wtV v≤600)
  (hv:VL w4 (fun b=>D b∧some b≠(Value.slice ad vs.length cap).ownBlock) v x) (hown:w6.ownsRow w.heap.size 74 1 v' (vs.length+1) (cs++[x])) (hgrow:(w4.alloc o).grownBy w6 (Value.slice ad vs.length cap).ownBlock) (hob:v'.ownBlock=(Value.slice ad vs.length cap).ownBlock∨v'.ownBlock=some (w4.alloc o).heap.size) :
  ∃ad' cap',v'=.slice ad' (vs++[v]).length cap'∧LB D w w6 rb s q' k ad' cap' (vs++[v]) (cs++[x]):=by
 obtain⟨ad',cap',rfl⟩:=owns_slice hown
 have sz:=ht.size
 have ew:wtVs (vs++[v])=wtVs vs+wtV v:=by rw[wtVs_app];simp[wtVs]
 have el:(vs++[v]).length=vs.length+1:=by simp
 refine⟨ad',cap',by rw[el],?_,?_,?_,?_,?_⟩
 ·rw[el];exact hown
 ·rw[el]
  exact vrow_step (fun g hg=>Nat.lt_of_lt_of_le (h.row g hg).2 sz) (h.val.touch ht fun g hg e=>hD (by have e:g=rb:=e;rw[←e];exact hg.1)) hv hgrow hob
 ·exact ((h.tch.trans ht).alloc o).grown hgrow fun g hg=>(h.row g hg).1
 ·rw[ew,←Nat.add_assoc]
  refine hX.same ?_
  rw[hgrow.block rb (by simp;have:=block_lt hX.blk;omega) (fun e=>by have:=(h.row rb e.symm).1;omega)]
  exact Below.heap_alloc _ _ _ (block_lt hX.blk)
 ·rw[ew];omega
def vaPost (D:Nat→Prop)(w:World)(rb:Nat)(s:ByteArray)(k:Nat)(o:Option (PV×List UInt8))(e:Ending)(w':World):Prop :=
 Touch (·=rb) w w'∧((∃v x q,o=some (v,s.data.toList.drop q)∧k+wtV v≤600∧e=.returned (.tuple #[x,.nilIface])∧VL w' D v x∧RdB w' rb s q (k+wtV v)) ∨
  ((∀v r,o=some (v,r)→600<k+wtV v)∧∃b p' k',e=.returned (.tuple #[.nilIface,.iface 69 (.string b)])∧RdB w' rb s p' k'))
def ValDo (s:ByteArray)(m:Nat):Prop:=∀(D:Nat→Prop) (w:World) (rb p k:Nat),RdB w rb s p k→NumG w→15≤rb→¬ D rb→(∀g,w.heap.size≤g→D g)→k≤600→s.size-p≤m →
 Calls prog 74 #[.pointer (some ⟨rb,0,none⟩)] w (vaPost D w rb s k (rdVx (s.data.toList.drop p)))
def lsPost (D:Nat→Prop)(w:World)(rb:Nat)(s:ByteArray)(k:Nat)(o:Option (List PV×List UInt8))(e:Ending)(w':World):Prop :=
 Touch (·=rb) w w'∧((∃vs x q,o=some (vs,s.data.toList.drop q)∧k+wtVs vs≤600∧e=.returned (.tuple #[x,.nilIface])∧VL w' D (.lst vs) x∧RdB w' rb s q (k+wtVs vs)) ∨
  ((∀vs r,o=some (vs,r)→600<k+wtVs vs)∧∃b p' k',e=.returned (.tuple #[.nilIface,.iface 69 (.string b)])∧RdB w' rb s p' k'))
theorem ls_close {D:Nat→Prop}{w wr X Y:World}{rb:Nat}{s:ByteArray}{q q' k:Nat}{ad:Option Addr}{cap:Nat}{vs:List PV}{cs:List Value}{o:Option (List PV×List UInt8)}(h:LB D w wr rb s q k ad cap vs cs)(hD:¬ D rb)(hD2:∀g,w.heap.size≤g→D g)(hr:rb<w.heap.size)(ho:o=some (vs,s.data.toList.drop q'))(ht:Touch (·=rb) wr X)(hX:RdB X rb s q' (k+wtVs vs))(hb:Below X.heap.size X Y):
  lsPost D w rb s k o (.returned (.tuple #[.iface 195 (.agg #[.slice ad vs.length cap,.int .i64 ((wtVs vs:Nat):Int)]),.nilIface])) Y:=by
 have l2:=h.touch hD hr ht hX
 refine⟨l2.tch.below_at hb,Or.inl ⟨vs,_,q',ho,h.le,rfl,?_,hX.below hb⟩⟩
 rw[VL]
 exact⟨_,cs,rfl,((SegAt.of_row (RowAt.of_owns l2.own)).below hb).weaken hD2,(l2.val.below hb).weaken fun g hg=>hg.1⟩
theorem ls_fail {D:Nat→Prop}{w X:World}{rb:Nat}{s:ByteArray}{q' k k':Nat}{o:Option (List PV×List UInt8)}{b:ByteArray}(ho:∀vs r,o=some (vs,r)→600<k+wtVs vs)(ht:Touch (·=rb) w X)(hX:RdB X rb s q' k'):
  lsPost D w rb s k o (.returned (.tuple #[.nilIface,.iface 69 (.string b)])) X:=⟨ht,Or.inr ⟨ho,b,q',k',rfl,hX⟩⟩
theorem addV_some {us vs:List PV}{o:Option (List PV×List UInt8)}{r:List UInt8}(h:addV us o=some (vs,r)):∃ws,o=some (ws,r)∧vs=us++ws:=by
 cases o with
 | none=>simp[addV] at h
 | some x=>obtain⟨a,b⟩:=x;simp only[addV,Option.some.injEq,Prod.mk.injEq] at h;exact⟨a,by rw[h.2],h.1.symm⟩
theorem consV_some {v:PV}{vs:List PV}{o:Option (List PV×List UInt8)}{r:List UInt8}(h:consV v o=some (vs,r)):∃ws,o=some (ws,r)∧vs=v::ws:=by
 cases o with
 | none=>simp[consV] at h
 | some x=>obtain⟨a,b⟩:=x;simp only[consV,Option.some.injEq,Prod.mk.injEq] at h;exact⟨a,by rw[h.2],h.1.symm⟩
theorem ls_bad {k:Nat}{R:Option (List PV×List UInt8)}{us:List PV}{b:Bool}{l:List UInt8}(hR:R=addV us (rdLx b l))(h:startsB 41 l=false)(h2:b=false→startsB 32 l=true)(hv:∀v r,rdVx (if b then l else l.drop 1)=some (v,r)→600<k+wtVs us+wtV v):∀vs r,R=some (vs,r)→600<k+wtVs vs:=by
 intro vs r e
 subst hR
 obtain⟨ws,e1,rfl⟩:=addV_some e
 cases hO:rdVx (if b then l else l.drop 1) with
 | none=>rw[rdLx_bad h h2 hO] at e1;cases e1
 | some x =>
  obtain⟨v,r'⟩:=x
  rw[rdLx_more h h2 hO] at e1
  obtain⟨us2,_,rfl⟩:=consV_some e1
  have:=hv v r' hO
  rw[wtVs_app,wtVs]
  omega
theorem ls_more {R:Option (List PV×List UInt8)}{us:List PV}{b:Bool}{l r:List UInt8}{v:PV}(hR:R=addV us (rdLx b l))(h:startsB 41 l=false)(h2:b=false→startsB 32 l=true)(hv:rdVx (if b then l else l.drop 1)=some (v,r)):R=addV (us++[v]) (rdLx (us++[v]).isEmpty r):=by
 have e:(us++[v]).isEmpty=false:=by cases us<;>rfl
 rw[hR,rdLx_more h h2 hv,addV_cons,e]
theorem list_at {m:Nat}{s:ByteArray}(ih:ValDo s m){D:Nat→Prop}{w:World}{rb p k:Nat}(h:RdB w rb s p k)(hG:NumG w)(hr:15≤rb)(hD:¬ D rb)(hD2:∀g,w.heap.size≤g→D g)(hk:k≤600)(hm:s.size-p≤m):
  Calls prog 107 #[.pointer (some ⟨rb,0,none⟩)] w (lsPost D w rb s k (rdLx true (s.data.toList.drop p))):=by
 have hrl:rb<w.heap.size:=block_lt h.blk
 obtain⟨R,hR⟩:∃R,rdLx true (s.data.toList.drop p)=R:=⟨_,rfl⟩
 have HR:Aside (rdLx true (s.data.toList.drop p)=R):=hR
 rw[hR]
 clear hR
 have hs:=h.hs
 go_enter func107,ntmps107
 go_wp2_with fail
 go_loopg [4] (s.size-p) (fun gh iv wr=>∃(q:Nat) (vs:List PV) (cs:List Value) (ad:Option Addr) (cap:Nat),gh=s.size-q∧iv=.slice ad vs.length cap∧p≤q∧LB D w wr rb s q k ad cap vs cs∧Aside (R=addV vs (rdLx vs.isEmpty (s.data.toList.drop q))))
 case atStart=>exact⟨p,[],[],none,0,rfl,rfl,Nat.le_refl _,⟨World.ownsRow_nil _ _ _ _,by rw[VLs],Touch.refl _ _,by simpa[wtVs] using h,by simpa[wtVs] using hk⟩,by show _=_;rw[addV_nil];exact HR.out.symm⟩
 case round =>
  obtain⟨q,vs,cs,ad,cap,rfl,rfl,hpq,lb,hP⟩:=hrel
  have hqs:=lb.rd.hp
  have CT:Hid (Calls prog 106 #[.pointer (some ⟨rb,0,none⟩),.string ⟨#[41]⟩] wr _):=take_at lb.rd 41
  have hvl:vs.length≤600:=by
   have:=lb.le
   have:∀l:List PV,l.length≤wtVs l:=fun l=>by
    induction l with
    | nil=>simp
    | cons a r ih=>rw[wtVs,List.length_cons];have:1≤wtV a:=wtV_pos a;omega
   have:=this vs
   omega
  cases hc:startsB 41 (s.data.toList.drop q) with
  | true =>
   rw[hc] at CT
   simp only[if_true] at CT
   have HRR:Aside (R=some (vs,s.data.toList.drop (q+1))):=by
    show _=_
    rw[hP.out,rdLx_close hc]
    simp[addV,List.drop_drop]
   have CN:Hid (∀X,Touch (·=rb) wr X→RdB X rb s (q+1) (k+wtVs vs)→Calls prog 143 #[.slice ad vs.length cap] X _):=fun X ht hX=>newList_any D vs _ cs X ((SegAt.of_row (RowAt.of_owns (lb.touch hD hrl ht hX).own)).weaken hD2) ((lb.touch hD hrl ht hX).val.weaken fun g hg=>hg.1) (by have:=lb.le;omega)
   have FIN:Hid (∀X Y,Touch (·=rb) wr X→RdB X rb s (q+1) (k+wtVs vs)→Below X.heap.size X Y→lsPost D w rb s k R (.returned (.tuple #[.iface 195 (.agg #[.slice ad vs.length cap,.int .i64 ((wtVs vs:Nat):Int)]),.nilIface])) Y):=fun X Y ht hX hb=>ls_close lb hD hD2 hrl HRR.out ht hX hb
   clear hP hc lb h hG ih HR HRR
   go_wp2_with (first
    |(go_at_call 106;refine CT.out.mono ?_;rintro e w1 ⟨ht1,rfl,h1⟩)
    |(go_at_call 143;refine (CN.out _ ht1 h1).mono ?_;rintro e w2 ⟨rfl,hb2⟩))
   go_ret2
   exact FIN.out _ _ ht1 h1 hb2
  | false =>
   rw[hc] at CT
   simp only[Bool.false_eq_true,if_false] at CT
   by_cases hv0:vs.length=0
   ·obtain rfl:vs=[]:=List.eq_nil_of_length_eq_zero hv0
    have hE:([]:List PV).isEmpty=true:=rfl
    rw[hE] at hP
    have MORE:Hid (∀v q4,rdVx (s.data.toList.drop (q))=some (v,s.data.toList.drop q4)→Aside (R=addV (([]:List PV)++[v]) (rdLx (([]:List PV)++[v]).isEmpty (s.data.toList.drop q4)))):=fun v q4 ho=>ls_more hP.out hc (fun h=>by cases h) (by simpa[List.drop_drop] using ho)
    have BAD:Hid ((∀v r,rdVx (s.data.toList.drop (q))=some (v,r)→600<k+wtVs ([]:List PV)+wtV v)→∀us r,R=some (us,r)→600<k+wtVs us):=fun hno=>ls_bad hP.out hc (fun h=>by cases h) fun v r ho=>hno v r (by simpa[List.drop_drop] using ho)
    have CV:Hid (∀X,Touch (·=rb) wr X→RdB X rb s (q) (k+wtVs ([]:List PV))→Calls prog 74 #[.pointer (some ⟨rb,0,none⟩)] X (vaPost (fun b=>D b∧some b≠(Value.slice ad ([]:List PV).length cap).ownBlock) X rb s (k+wtVs ([]:List PV)) (rdVx (s.data.toList.drop (q))))):=fun X ht hX=>ih _ X rb _ _ hX (hG.touch (lb.tch.trans ht) hr) hr (fun h=>hD h.1) (fun g hg=>⟨hD2 g (by have:=lb.tch.size;have:=ht.size;omega),fun e=>by have:=(lb.row g e.symm).2;have:=ht.size;omega⟩) lb.le (by omega)
    clear hP h hG ih HR
    clear hE hv0 hvl
    go_wp2_with (go_at_call 106;refine CT.out.mono ?_;rintro e w1 ⟨ht1,rfl,h1⟩)
    refine (CV.out _ ht1 h1).mono ?_
    rintro e w4 ⟨ht4,⟨v,x,q4,ho,hle,rfl,hv,h4⟩ | ⟨hno,b,p',k',rfl,h4⟩⟩
    ·obtain⟨tv,xv,rfl⟩:=hv.iface
     have htw:Touch (·=rb) wr w4:=(ht1).trans ht4
     have hsz4:w.heap.size≤w4.heap.size:=Nat.le_trans lb.tch.size htw.size
     have HM:=MORE.out _ _ ho
     have hq4:q4≤s.size:=h4.hp
     have hlt4:q<q4:=by
      have:=rdV_lt (show rdV _ _=some (v,s.data.toList.drop q4) from ho)
      rw[List.length_drop,List.length_drop,len_data] at this
      omega
     have own4:w4.ownsRow w.heap.size 74 1 (.slice ad ([]:List PV).length cap) ([]:List PV).length cs:=owns_keep lb.own fun g hg=>htw.block g (lb.row g hg).2 (by have:=(lb.row g hg).1;show ¬ g=rb;omega)
     have own4:w4.ownsRow w.heap.size 74 1 (.slice ad 0 cap) 0 cs:=own4
     have ST:=fun w6 v' o=>LB.step (w6:=w6) (v':=v') (o:=o) lb hD hrl htw h4 hle hv
     have STH:Hid (∀w6 v' o,_):=ST
     clear ST CV BAD MORE hv ho CT
     go_wp2_with (at_builtin;obtain⟨i0,hi,hz0,hz1,hz2⟩:=info_parts Tryz.infoVVal;go_loud (refine wpList_append_own_at _ rfl _ _ 70 rfl w.heap.size 74 i0 .nilIface 1 16 underlying70 hi hz0 hz1 hz2 rfl (by decide) _ _ _ rfl (own4.alloc _) ⟨w4.heap.size,0,none⟩ 1 1 [.iface tv xv] rfl rfl (cell_one_new _ _ _) (fun x hx=>by simp at hx;subst hx;rfl) (by unfold maxLen;omega) (by omega) (by simp;omega) ?_);intro v' w6 hown' hgrow hnil hob;clear hi hz0 hz1 hz2)
     go_roundg (s.size-q4)
     case measure=>omega
     case rel =>
      obtain⟨ad',cap',rfl,lb'⟩:=STH.out _ _ _ hown' hgrow hob
      exact⟨q4,_,_,ad',cap',rfl,rfl,by omega,lb',HM⟩
    ·have FIN:Hid (lsPost D w rb s k R (.returned (.tuple #[.nilIface,.iface 69 (.string b)])) w4):=ls_fail (BAD.out hno) (lb.tch.trans ((ht1).trans ht4)) h4
     clear CV BAD MORE CT
     go_wp2_with fail
     go_ret2
     exact FIN.out
   ·have hE:vs.isEmpty=false:=by cases vs with
     | nil=>exact absurd rfl hv0
     | cons a r=>rfl
    rw[hE] at hP
    have hv0i:(0:Int)<(vs.length:Int):=by omega
    have CT2:Hid (∀X,RdB X rb s q (k+wtVs vs)→Calls prog 106 #[.pointer (some ⟨rb,0,none⟩),.string ⟨#[32]⟩] X _):=fun X hX=>take_at hX 32
    cases hb:startsB 32 (s.data.toList.drop q) with
    | false =>
     rw[hb] at CT2
     simp only[Bool.false_eq_true,if_false] at CT2
     have FIN:Hid (∀X Y b,Touch (·=rb) wr X→Touch (·=rb) X Y→RdB Y rb s q (k+wtVs vs)→lsPost D w rb s k R (.returned (.tuple #[.nilIface,.iface 69 (.string b)])) Y):=fun X Y b h1 h2 h3=>ls_fail (fun us r e=>by rw[hP.out,rdLx_none hc hb] at e;cases e) (lb.tch.trans (h1.trans h2)) h3
     clear hP h hG ih HR hE
     go_wp2_with (first
      |(go_at_call 106;refine (CT2.out _ h1).mono ?_;rintro e w2 ⟨ht2,rfl,h2⟩)
      |(go_at_call 106;refine CT.out.mono ?_;rintro e w1 ⟨ht1,rfl,h1⟩))
     go_ret2
     exact FIN.out _ _ _ ht1 ht2 h2
    | true =>
     rw[hb] at CT2
     simp only[if_true] at CT2
     have MORE:Hid (∀v q4,rdVx (s.data.toList.drop (q+1))=some (v,s.data.toList.drop q4)→Aside (R=addV (vs++[v]) (rdLx (vs++[v]).isEmpty (s.data.toList.drop q4)))):=fun v q4 ho=>ls_more hP.out hc (fun _=>hb) (by simpa[List.drop_drop] using ho)
     have BAD:Hid ((∀v r,rdVx (s.data.toList.drop (q+1))=some (v,r)→600<k+wtVs vs+wtV v)→∀us r,R=some (us,r)→600<k+wtVs us):=fun hno=>ls_bad hP.out hc (fun _=>hb) fun v r ho=>hno v r (by simpa[List.drop_drop] using ho)
     have CV:Hid (∀X,Touch (·=rb) wr X→RdB X rb s (q+1) (k+wtVs vs)→Calls prog 74 #[.pointer (some ⟨rb,0,none⟩)] X (vaPost (fun b=>D b∧some b≠(Value.slice ad vs.length cap).ownBlock) X rb s (k+wtVs vs) (rdVx (s.data.toList.drop (q+1))))):=fun X ht hX=>ih _ X rb _ _ hX (hG.touch (lb.tch.trans ht) hr) hr (fun h=>hD h.1) (fun g hg=>⟨hD2 g (by have:=lb.tch.size;have:=ht.size;omega),fun e=>by have:=(lb.row g e.symm).2;have:=ht.size;omega⟩) lb.le (by omega)
     clear hP h hG ih HR
     clear hE
     go_wp2_with (first
      |(go_at_call 106;refine (CT2.out _ h1).mono ?_;rintro e w2 ⟨ht2,rfl,h2⟩)
      |(go_at_call 106;refine CT.out.mono ?_;rintro e w1 ⟨ht1,rfl,h1⟩))
     refine (CV.out _ (ht1.trans ht2) h2).mono ?_
     rintro e w4 ⟨ht4,⟨v,x,q4,ho,hle,rfl,hv,h4⟩ | ⟨hno,b,p',k',rfl,h4⟩⟩
     ·obtain⟨tv,xv,rfl⟩:=hv.iface
      have htw:Touch (·=rb) wr w4:=(ht1.trans ht2).trans ht4
      have hsz4:w.heap.size≤w4.heap.size:=Nat.le_trans lb.tch.size htw.size
      have HM:=MORE.out _ _ ho
      have hq4:q4≤s.size:=h4.hp
      have hlt4:q+1<q4:=by
       have:=rdV_lt (show rdV _ _=some (v,s.data.toList.drop q4) from ho)
       rw[List.length_drop,List.length_drop,len_data] at this
       omega
      have own4:w4.ownsRow w.heap.size 74 1 (.slice ad vs.length cap) vs.length cs:=owns_keep lb.own fun g hg=>htw.block g (lb.row g hg).2 (by have:=(lb.row g hg).1;show ¬ g=rb;omega)
      have ST:=fun w6 v' o=>LB.step (w6:=w6) (v':=v') (o:=o) lb hD hrl htw h4 hle hv
      have STH:Hid (∀w6 v' o,_):=ST
      clear ST CV BAD MORE hv ho CT
      go_wp2_with (at_builtin;obtain⟨i0,hi,hz0,hz1,hz2⟩:=info_parts Tryz.infoVVal;go_loud (refine wpList_append_own_at _ rfl _ _ 70 rfl w.heap.size 74 i0 .nilIface 1 16 underlying70 hi hz0 hz1 hz2 rfl (by decide) _ _ _ rfl (own4.alloc _) ⟨w4.heap.size,0,none⟩ 1 1 [.iface tv xv] rfl rfl (cell_one_new _ _ _) (fun x hx=>by simp at hx;subst hx;rfl) (by unfold maxLen;omega) (by omega) (by simp;omega) ?_);intro v' w6 hown' hgrow hnil hob;clear hi hz0 hz1 hz2)
      go_roundg (s.size-q4)
      case measure=>omega
      case rel =>
       obtain⟨ad',cap',rfl,lb'⟩:=STH.out _ _ _ hown' hgrow hob
       exact⟨q4,_,_,ad',cap',rfl,rfl,by omega,lb',HM⟩
     ·have FIN:Hid (lsPost D w rb s k R (.returned (.tuple #[.nilIface,.iface 69 (.string b)])) w4):=ls_fail (BAD.out hno) (lb.tch.trans ((ht1.trans ht2).trans ht4)) h4
      clear CV BAD MORE CT
      go_wp2_with fail
      go_ret2
      exact FIN.out
theorem va_fail {D:Nat→Prop}{w X:World}{rb:Nat}{s:ByteArray}{q' k k':Nat}{o:Option (PV×List UInt8)}{b:ByteArray}(ho:∀v r,o=some (v,r)→600<k+wtV v)(ht:Touch (·=rb) w X)(hX:RdB X rb s q' k'):
  vaPost D w rb s k o (.returned (.tuple #[.nilIface,.iface 69 (.string b)])) X:=⟨ht,Or.inr ⟨ho,b,q',k',rfl,hX⟩⟩
theorem value_step {m:Nat}{s:ByteArray}(ih:∀m',m=m'+1→ValDo s m'):ValDo s m:=by
 intro D w rb p k h hG hr hD hD2 hk hm
 have CW:=weigh_at h 1 (by omega)
 by_cases hw:k+1≤600
 ·have CW1:Hid (Calls prog 105 #[.pointer (some ⟨rb,0,none⟩),.int .i64 1] w fun e w'=>Touch (·=rb) w w'∧RdB w' rb s p (k+1)∧e=.returned .nilIface):=CW.mono fun e w' ⟨a,b,c⟩=>⟨a,b,by rcases c with c | c;exact c.2;omega⟩
  have CT:Hid (∀X,RdB X rb s p (k+1)→Calls prog 106 #[.pointer (some ⟨rb,0,none⟩),.string ⟨#[40]⟩] X _):=fun X hX=>take_at hX 40
  have CQ:Hid (∀X,RdB X rb s p (k+1)→Calls prog 106 #[.pointer (some ⟨rb,0,none⟩),.string ⟨#[39]⟩] X _):=fun X hX=>take_at hX 39
  clear CW
  cases h40:startsB 40 (s.data.toList.drop p) with
  | true =>
   rw[h40] at CT
   simp only[if_true] at CT
   have hlt:=starts_lt h40
   obtain⟨m',rfl⟩:∃m',m=m'+1:=⟨m-1,by omega⟩
   have e1:(s.data.toList.drop p).drop 1=s.data.toList.drop (p+1):=by rw[List.drop_drop]
   have CL:Hid (∀X,Touch (·=rb) w X→RdB X rb s (p+1) (k+1)→Calls prog 107 #[.pointer (some ⟨rb,0,none⟩)] X fun e w'=>vaPost D w rb s k (rdVx (s.data.toList.drop p)) e w'∧∃x y,e=.returned (.tuple #[x,y])):=fun X ht hX=>(list_at (ih m' rfl) hX (hG.touch ht hr) hr hD (fun g hg=>hD2 g (by have:=ht.size;omega)) hw (by omega)).mono fun e w' hh=>by
    rw[rdVx_list h40,e1]
    obtain⟨a,⟨vs,x,q,ho,hle,he,hv,hx⟩ | ⟨hno,b,p',k',he,hx⟩⟩:=hh
    ·refine⟨⟨ht.trans a,Or.inl ⟨.lst vs,x,q,by rw[ho];rfl,by rw[wtV];omega,he,hv,?_⟩⟩,_,_,he⟩
     have:k+wtV (.lst vs)=k+1+wtVs vs:=by rw[wtV];omega
     rw[this]
     exact hx
    ·refine⟨⟨ht.trans a,Or.inr ⟨fun v r e=>?_,b,p',k',he,hx⟩⟩,_,_,he⟩
     cases hL:rdLx true (s.data.toList.drop (p+1)) with
     | none=>rw[hL] at e;cases e
     | some y =>
      obtain⟨vs,r'⟩:=y
      rw[hL] at e
      cases e
      have:=hno vs _ hL
      rw[wtV]
      omega
   clear ih h hG h40 e1
   go_enter func74,ntmps74
   go_wp2_with (first
    |(go_at_call 105;refine CW1.out.mono ?_;rintro e w1 ⟨ht1,h1,rfl⟩)
    |(go_at_call 106;refine (CT.out _ h1).mono ?_;rintro e w2 ⟨ht2,rfl,h2⟩)
    |(go_at_call 107;refine (CL.out _ (ht1.trans ht2) h2).mono ?_;rintro e w3 ⟨hp3,x,y,rfl⟩))
   go_ret2
   exact hp3
  | false =>
   rw[h40] at CT
   simp only[Bool.false_eq_true,if_false] at CT
   cases h39:startsB 39 (s.data.toList.drop p) with
   | true =>
    rw[h39] at CQ
    simp only[if_true] at CQ
    have e1:(s.data.toList.drop p).drop 1=s.data.toList.drop (p+1):=by rw[List.drop_drop]
    have CL:Hid (∀X,Touch (·=rb) w X→RdB X rb s (p+1) (k+1)→Calls prog 108 #[.pointer (some ⟨rb,0,none⟩)] X fun e w'=>vaPost D w rb s k (rdVx (s.data.toList.drop p)) e w'∧∃x y,e=.returned (.tuple #[x,y])):=fun X ht hX=>(quoted_at hX hw).mono fun e w' hh=>by
     rw[rdVx_text h40 h39,e1]
     have hrn:=run_le quot s (p+1) hX.hp
     obtain⟨a,⟨h1,hle,⟨t,htt,he⟩,hx⟩ | ⟨hno,x,p',k',⟨b,rfl⟩,he,hx⟩⟩:=hh
     ·have hl:(List.take (runL quot (s.data.toList.drop (p+1))) (s.data.toList.drop (p+1))).length=runL quot (s.data.toList.drop (p+1)):=by rw[List.length_take,List.length_drop,len_data];omega
      refine⟨⟨ht.trans a,Or.inl ⟨.txt _,_,_,by rw[if_pos h1,List.drop_drop,List.drop_drop],?_,he,?_,?_⟩⟩,_,_,he⟩
      ·rw[wtV,hl];omega
      ·rw[VL];exact⟨t,htt,rfl⟩
      ·have:k+wtV (.txt (List.take (runL quot (s.data.toList.drop (p+1))) (s.data.toList.drop (p+1))))=k+1+runL quot (s.data.toList.drop (p+1)):=by rw[wtV,hl];omega
       rw[this]
       exact hx
     ·refine⟨⟨ht.trans a,Or.inr ⟨fun v r e=>?_,b,p',k',he,hx⟩⟩,_,_,he⟩
      have hl:(List.take (runL quot (s.data.toList.drop (p+1))) (s.data.toList.drop (p+1))).length=runL quot (s.data.toList.drop (p+1)):=by rw[List.length_take,List.length_drop,len_data];omega
      split at e
      ·rename_i h1
       cases e
       have:=hno h1
       rw[wtV,hl]
       omega
      ·cases e
    clear ih h hG h40 h39 e1
    go_enter func74,ntmps74
    go_wp2_with (first
     |(go_at_call 105;refine CW1.out.mono ?_;rintro e w1 ⟨ht1,h1,rfl⟩)
     |(go_at_call 106;refine (CQ.out _ h2).mono ?_;rintro e w3 ⟨ht3,rfl,h3⟩)
     |(go_at_call 106;refine (CT.out _ h1).mono ?_;rintro e w2 ⟨ht2,rfl,h2⟩)
     |(go_at_call 108;refine (CL.out _ ((ht1.trans ht2).trans ht3) h3).mono ?_;rintro e w4 ⟨hp4,x,y,rfl⟩))
    go_ret2
    exact hp4
   | false =>
    rw[h39] at CQ
    simp only[Bool.false_eq_true,if_false] at CQ
    have CL:Hid (∀X,Touch (·=rb) w X→RdB X rb s p (k+1)→Calls prog 109 #[.pointer (some ⟨rb,0,none⟩)] X fun e w'=>vaPost D w rb s k (rdVx (s.data.toList.drop p)) e w'∧∃x y,e=.returned (.tuple #[x,y])):=fun X ht hX=>(number_at hX (hG.touch ht hr) hr).mono fun e w' hh=>by
     rw[rdVx_num h40 h39]
     obtain⟨a,⟨z,ho,he,hx⟩ | ⟨hno,x,⟨b,rfl⟩,he,hx⟩⟩:=hh
     ·refine⟨⟨ht.trans a,Or.inl ⟨.num z,_,_,by rw[ho,Option.map_some,List.drop_drop],by rw[wtV];omega,he,by rw[VL],?_⟩⟩,_,_,he⟩
      rw[wtV]
      exact hx
     ·refine⟨⟨ht.trans a,Or.inr ⟨fun v r e=>?_,b,_,_,he,hx⟩⟩,_,_,he⟩
      rw[hno] at e
      cases e
    clear ih h hG h40 h39
    go_enter func74,ntmps74
    go_wp2_with (first
     |(go_at_call 105;refine CW1.out.mono ?_;rintro e w1 ⟨ht1,h1,rfl⟩)
     |(go_at_call 106;refine (CQ.out _ h2).mono ?_;rintro e w3 ⟨ht3,rfl,h3⟩)
     |(go_at_call 106;refine (CT.out _ h1).mono ?_;rintro e w2 ⟨ht2,rfl,h2⟩)
     |(go_at_call 109;refine (CL.out _ ((ht1.trans ht2).trans ht3) h3).mono ?_;rintro e w4 ⟨hp4,x,y,rfl⟩))
    go_ret2
    exact hp4
 ·have CW1:Hid (Calls prog 105 #[.pointer (some ⟨rb,0,none⟩),.int .i64 1] w fun e w'=>Touch (·=rb) w w'∧RdB w' rb s p (k+1)∧∃b:ByteArray,e=.returned (.iface 69 (.string b))):=CW.mono fun e w' ⟨a,b,c⟩=>⟨a,b,by
   rcases c with c | ⟨_,x,⟨d,rfl⟩,c⟩
   ·omega
   ·exact⟨d,c⟩⟩
  have FIN:Hid (∀X b,Touch (·=rb) w X→RdB X rb s p (k+1)→vaPost D w rb s k (rdVx (s.data.toList.drop p)) (.returned (.tuple #[.nilIface,.iface 69 (.string b)])) X):=fun X b ht hX=>va_fail (fun v r _=>by have:=wtV_pos v;omega) ht hX
  clear CW ih h hG
  go_enter func74,ntmps74
  go_wp2_with (go_at_call 105;refine CW1.out.mono ?_;rintro e w1 ⟨ht1,h1,b,rfl⟩)
  go_ret2
  exact FIN.out _ _ ht1 h1
theorem value_all (s:ByteArray):∀m,ValDo s m
 | 0=>value_step fun m' h=>by omega
 | m+1=>value_step fun m' h=>by
  have:m'=m:=by omega
  rw[this]
  exact value_all s m
def vreadPost (w : World) (o : Option PV) (e : Ending) (w' : World) : Prop := Below w.heap.size w w' ∧
  ((∃ v x, o = some v ∧ e = .returned (.tuple #[x, .nilIface]) ∧ VL w' (w.heap.size < ·) v x) ∨
   (o = none ∧ ∃ (z : Int) (b : ByteArray), e = .returned (.tuple #[.nilIface, .iface 186 (.agg #[.int .i64 z, .iface 69 (.string b)])])))
theorem vread_ok {w X:World}{s:ByteArray}{v:PV}{x:Value}(hb:Below w.heap.size w X)(h1:readV s.data.toList=some v)(h2:VL X (w.heap.size<·) v x):vreadPost w (readV s.data.toList) (.returned (.tuple #[x,.nilIface])) X:=⟨hb,Or.inl ⟨v,x,h1,rfl,h2⟩⟩
theorem vread_no {w X:World}{s b:ByteArray}{z:Int}(hb:Below w.heap.size w X)(h1:readV s.data.toList=none):vreadPost w (readV s.data.toList) (.returned (.tuple #[.nilIface,.iface 186 (.agg #[.int .i64 z,.iface 69 (.string b)])])) X:=⟨hb,Or.inr ⟨h1,z,b,rfl⟩⟩
theorem Read_any (s:ByteArray)(w:World)(hs:s.size≤1000000000000)(hG:NumG w)(hw:15≤w.heap.size):
  Calls prog 53 #[.string s] w (vreadPost w (readV s.data.toList)):=by
 have bX:=below1 w (Obj.cells #[.string s,.int .i64 0,.int .i64 0] 183)
 have hX:RdB (w.alloc (Obj.cells #[.string s,.int .i64 0,.int .i64 0] 183)) w.heap.size s 0 0:=⟨heap_alloc_new _ _,Nat.zero_le _,hs,by omega⟩
 have CV:=value_all s s.size (w.heap.size<·) _ w.heap.size 0 0 hX (hG.below bX) hw (Nat.lt_irrefl _) (fun g hg=>by simp at hg;omega) (by omega) (by omega)
 rw[List.drop_zero] at CV
 have hsi:((s.size:Nat):Int)≤1000000000000:=by omega
 have OK:Hid (∀{v:PV} {q:Nat},rdVx s.data.toList=some (v,s.data.toList.drop q)→q≤s.size→wtV v≤600→readV s.data.toList=if q=s.size then some v else none):=fun {v q} h1 h2 h3=>by
  rw[readV_eq,h1]
  have:(s.data.toList.drop q=[]) ↔ q=s.size:=by rw[List.drop_eq_nil_iff,len_data];omega
  simp only[this,h3,and_true]
 have NO:Hid ((∀v r,rdVx s.data.toList=some (v,r)→600<0+wtV v)→readV s.data.toList=none):=fun h=>by
  rw[readV_eq]
  split
  ·rename_i v r hh
   have:=h v r hh
   rw[if_neg (by omega)]
  ·rfl
 clear hG
 go_enter func53,ntmps53
 go_wp2_with fail
 refine CV.mono ?_
 rintro e w1 ⟨ht1,⟨v,x,q,ho,hle,rfl,hv,h1⟩ | ⟨hno,b,p',k',rfl,h1⟩⟩
 ·obtain⟨tv,xv,rfl⟩:=hv.iface
  have hbw:Below w.heap.size w w1:=Touch.fresh bX ht1 (fun g hg=>by show ¬ g=_;omega)
  obtain⟨d0,d1,d2,df,dl⟩:=h1.cells
  have hr:=OK.out ho h1.hp (by omega)
  have hqs:=h1.hp
  by_cases hq:q=s.size
  ·rw[if_pos hq] at hr
   have FIN:Hid (vreadPost w (readV s.data.toList) (.returned (.tuple #[.iface tv xv,.nilIface])) w1):=vread_ok hbw hr hv
   clear CV OK NO hv ho hr h1 hX
   subst hq
   go_wp2_with fail
   go_ret2
   exact FIN.out
  ·rw[if_neg hq] at hr
   have FIN:Hid (∀X z b,Below w.heap.size w X→vreadPost w (readV s.data.toList) (.returned (.tuple #[.nilIface,.iface 186 (.agg #[.int .i64 z,.iface 69 (.string b)])])) X):=fun X z b hb=>vread_no hb hr
   have hqi:¬ ((q:Nat):Int)=((s.size:Nat):Int):=by omega
   clear CV OK NO hv ho hr h1 hX hq
   go_wp2_with fail
   go_quiet (fail)
   go_wp2_with fail
   go_ret2
   exact FIN.out _ _ _ (below_drewN hbw _)
 ·have hbw:Below w.heap.size w w1:=Touch.fresh bX ht1 (fun g hg=>by show ¬ g=_;omega)
  obtain⟨d0,d1,d2,df,dl⟩:=h1.cells
  have FIN:Hid (∀X z b,Below w.heap.size w X→vreadPost w (readV s.data.toList) (.returned (.tuple #[.nilIface,.iface 186 (.agg #[.int .i64 z,.iface 69 (.string b)])])) X):=fun X z b hb=>vread_no hb (NO.out hno)
  clear CV OK NO h1 hX hno
  go_wp2_with fail
  go_quiet (fail)
  go_wp2_with fail
  go_ret2
  exact FIN.out _ _ _ (below_drewN hbw _)
end Go.Proofs.YtifhgjpglicjbaaGreatDoor
namespace Go.Proofs.YtifhgjpglicjbaaGreatDoor
open Go.Proofs.Tryz
open Go.RowKit Go.Maps
attribute [local go_sem ↓] Go.wp_at_zero Go.wp_at_succ
structure Errs (w:World)(E:Nat→Addr):Prop where
 e1:w.cell? ⟨3,0,none⟩=some (errVal (E 1))
 e2:w.cell? ⟨6,0,none⟩=some (errVal (E 2))
 e3:w.cell? ⟨1,0,none⟩=some (errVal (E 3))
 e4:w.cell? ⟨7,0,none⟩=some (errVal (E 4))
 e5:w.cell? ⟨5,0,none⟩=some (errVal (E 5))
 e6:w.cell? ⟨8,0,none⟩=some (errVal (E 6))
 e7:w.cell? ⟨4,0,none⟩=some (errVal (E 7))
theorem Errs.below {w w':World}{E:Nat→Addr}(h:Errs w E)(hb:Below w.heap.size w w'):Errs w' E:=⟨Below.cellv hb h.e1,Below.cellv hb h.e2,Below.cellv hb h.e3,Below.cellv hb h.e4,Below.cellv hb h.e5,Below.cellv hb h.e6,Below.cellv hb h.e7⟩
def ansV (o:Option (Nat×Nat))(E:Nat→Addr):Value :=
 match o with
 | none=>.nilIface
 | some (c,p)=>wrongV p (E c)
theorem FnsRep.lens {w:World}{D:Nat→Prop}:∀{xs:List FnV} {fns:List Fn},FnsRep w D xs fns→(∀fn∈fns,fn.small)→FnLens xs (fns.map (·.params.length))
 | [],fns,h,_=>by rw[show fns=[] from h];rfl
 | x::xs,fns,h,hs=>by
  obtain⟨fn,r,rfl,⟨_,_,⟨ps,hps,hpr⟩,_⟩,h3⟩:=h
  have hl:ps.length=fn.params.length:=by rw[←hps];simp[plainNames]
  have hsm:=hs fn (by simp)
  refine⟨fn.params.length,r.map (·.params.length),rfl,⟨by have:=hsm.2;omega,?_⟩,FnsRep.lens h3 fun f hf=>hs f (by simp[hf])⟩
  rw[←hl]
  rcases hpr.2 with ⟨g1,g2⟩ | ⟨_,_,_,hv,_⟩
  ·exact⟨_,_,by rw[g1,g2]⟩
  ·exact⟨_,_,hv⟩
theorem hasSig_rep {w:World}{D:Nat→Prop}(wd:ByteArray)(k:Nat):∀{xs:List FnV} {fns:List Fn},FnsRep w D xs fns→hasSig wd k (sigsV xs (fns.map (·.params.length)))=hasP wd.data.toList k fns
 | [],fns,h=>by rw[show fns=[] from h];rfl
 | x::xs,fns,h=>by
  obtain⟨fn,r,rfl,⟨h1,_⟩,h3⟩:=h
  have:=hasSig_rep wd k h3
  simp only[hasSig,hasP,sigsV,List.map_cons,List.zip_cons_cons,List.any_cons] at this ⊢
  rw[this,sigIs,ByteArray.toList_eq,ByteArray.toList_eq,h1]
theorem mainOk_rep {w:World}{D:Nat→Prop}{xs:List FnV}{fns:List Fn}(h:FnsRep w D xs fns):mainOk (sigsV xs (fns.map (·.params.length)))=mainP fns:=by
 rw[mainOk,mainP,hasSig_rep _ _ h,hasSig_rep _ _ h,hasSig_rep _ _ h]
theorem FnsRep.ifs {w:World}{D:Nat→Prop}:∀{xs:List FnV} {fns:List Fn},FnsRep w D xs fns→∀x∈xs,∃t y,x.bv=Value.iface t y
 | [],fns,_,x,hx=>by cases hx
 | y::xs,fns,h,x,hx=>by
  obtain⟨fn,r,rfl,⟨_,_,_,hb⟩,h3⟩:=h
  rcases List.mem_cons.1 hx with rfl | hx
  ·exact hb.iface
  ·exact FnsRep.ifs h3 x hx
structure Res1 (X:World)(b:Nat):Prop where
 c0:X.cell? ⟨b,0,none⟩=some (.slice none 0 0)
 f0:X.frozen? ⟨b,0,none⟩=false
theorem Res1.new (w:World):Res1 (w.alloc (Obj.cells #[.slice none 0 0] 57)) w.heap.size:=by
 have h:(w.alloc (Obj.cells #[.slice none 0 0] 57)).heap[w.heap.size]?=some (.cells #[.slice none 0 0] 57):=heap_alloc_new _ _
 constructor
 ·unfold World.cell?;rw[h];rfl
 ·unfold World.frozen?;rw[h];rfl
theorem Res1.below {X Y:World}{b:Nat}(h:Res1 X b)(hb:Below X.heap.size X Y):Res1 Y b:=by
 have hl:=cell_lt h.c0
 exact⟨Below.cellv hb h.c0,by rw[hb.frozen hl];exact h.f0⟩
theorem new_cell1 (w:World)(x:Value)(t:TypeId):(w.alloc (.cells #[x] t)).cell? ⟨w.heap.size,0,none⟩=some x:=by
 have h:(w.alloc (Obj.cells #[x] t)).heap[w.heap.size]?=some (.cells #[x] t):=heap_alloc_new _ _
 unfold World.cell?;rw[h];rfl
def ProgAt (w:World)(D:Nat→Prop)(v:Value)(fns:List Fn):Prop:=∃xs:List FnV,RowAt w D 66 4 v xs.length (fnCells xs)∧FnsRep w D xs fns∧xs.length≤100000∧∀fn∈fns,fn.small
theorem ProgAt.keep {w w':World}{D:Nat→Prop}{v:Value}{fns:List Fn}(h:ProgAt w D v fns)(hS:Same D w w'):ProgAt w' (fun k=>D k∧k<w.heap.size) v fns:=by
 obtain⟨xs,h1,h2,h3,h4⟩:=h
 exact⟨xs,h1.keep hS,h2.keep hS,h3,h4⟩
theorem ProgAt.weaken {w:World}{D D':Nat→Prop}{v:Value}{fns:List Fn}(h:ProgAt w D v fns)(hD:∀k,D k→D' k):ProgAt w D' v fns:=by
 obtain⟨xs,h1,h2,h3,h4⟩:=h
 exact⟨xs,h1.weaken hD,h2.weaken hD,h3,h4⟩
theorem ProgAt.below {w w':World}{D:Nat→Prop}{v:Value}{fns:List Fn}(h:ProgAt w D v fns)(hb:Below w.heap.size w w'):ProgAt w' D v fns:=(h.keep fun k _ hlt=>hb.block k hlt).weaken fun _ hk=>hk.1
def readPost (w:World)(n:Nat)(ts:List Tok)(E:Nat→Addr)(e:Ending)(w':World):Prop :=
 (∃ad m cap,e=.returned (.tuple #[.agg #[.slice ad m cap],ansV (answer n ts) E])∧(∀fns rest,pProg (ts.length+1) ts=.ok fns rest→answer n ts=none→ProgAt w' (w.heap.size≤·) (.slice ad m cap) fns))∧Below w.heap.size w w'
theorem read_bad {w w':World}{n:Nat}{ts:List Tok}{E:Nat→Addr}{v:Value}{c p:Nat}(h:answer n ts=some (c,p))(hv:v=wrongV p (E c))(hb:Below w.heap.size w w'):readPost w n ts E (.returned (.tuple #[.agg #[.slice none 0 0],v])) w':=by
 refine⟨⟨none,0,0,by rw[h,hv];rfl,fun _ _ _ h2=>?_⟩,hb⟩
 rw[h] at h2
 cases h2
theorem read_any (s:ByteArray)(w:World)(E:Nat→Addr)(hE:Errs w E)(h15:15≤w.heap.size)(hs:s.size≤maxLen){ts:List Tok}(hts:s.size≤2000→IsToks s.data.toList 0 ts):
  Calls prog 25 #[.string s] w (readPost w s.size ts E):=by
 unfold maxLen at hs
 have r1:=Res1.new w
 have bX:=below1 w (Obj.cells #[.slice none 0 0] 57)
 have hXs:(w.alloc (Obj.cells #[.slice none 0 0] 57)).heap.size=w.heap.size+1:=by simp
 by_cases hl:2000<s.size
 ·have e:answer s.size ts=some (1,0):=by simp[answer,hl]
  have RB:Hid (∀w',Below w.heap.size w w'→readPost w s.size ts E (.returned (.tuple #[.agg #[.slice none 0 0],wrongV 0 (E 1)])) w'):=fun w' hb=>read_bad e rfl hb
  have c1:=(hE.below bX).e1
  obtain⟨c0,f0⟩:=r1
  clear hE hts e
  generalize readPost w s.size ts E=Q at *
  go_enter func25,ntmps25
  go_wp2
  go_region
  all_goals (try go_wp2)
  all_goals refine bodyPost_ret (v:=.tuple #[.agg #[.slice none 0 0],wrongV 0 (E 1)]) (by simp[results,results25,go_sem,c0]) rfl (RB.out _ ?_)
  all_goals first
   | exact bX.setCell (p:=⟨w.heap.size,0,none⟩) (Nat.le_refl _) _
   | exact (bX.setCell (p:=⟨w.heap.size,0,none⟩) (Nat.le_refl _) _).drew
   | exact bX.drew
 ·have hX15:15≤(w.alloc (Obj.cells #[.slice none 0 0] 57)).heap.size:=by omega
  have hEX:=hE.below bX
  have ht:=hts (by omega)
  have hA:answer s.size ts=chk s.size (pProg (ts.length+1) ts):=by simp[answer,hl]
  have pc:=clone_any s (w.alloc (Obj.cells #[.slice none 0 0] 57)) (by omega)
  have pa:=fun w1 (hb:Below (w.alloc (Obj.cells #[.slice none 0 0] 57)).heap.size (w.alloc (Obj.cells #[.slice none 0 0] 57)) w1)=>parse_any s w1 (E 2) (E 3) (by omega) (hEX.below hb).e2 (hEX.below hb).e3 (Nat.le_trans hX15 hb.size) ht
  have hlen:=ht.len (by omega)
  rw[len_data] at hlen
  have hsd:s.data.toList.length≤2000:=by rw[len_data];omega
  cases hP:pProg (ts.length+1) ts with
  | err c a =>
   rw[hP] at hA
   simp only[hP] at pa
   have RB:Hid (∀w',Below w.heap.size w w'→readPost w s.size ts E (.returned (.tuple #[.agg #[.slice none 0 0],wrongV a (errOf c (E 2) (E 3))])) w'):=fun w' hb=>read_bad hA (by
    simp only[codeT,errOf]
    split<;>rfl) hb
   have pa2:∀w1,Below (w.alloc (Obj.cells #[.slice none 0 0] 57)).heap.size (w.alloc (Obj.cells #[.slice none 0 0] 57)) w1→Calls prog 48 #[.string s] w1 fun e w'=>e=.returned (.tuple #[.slice none 0 0,wrongV a (errOf c (E 2) (E 3))])∧Below w1.heap.size w1 w':=fun w1 hb=>(pa w1 hb).mono fun e w' h=>⟨h.2,h.1⟩
   clear pa hP hA hlen ht hts hE hEX
   generalize errOf c (E 2) (E 3)=aE at *
   generalize readPost w s.size ts E=Q at *
   go_enter func25,ntmps25
   go_wp2_with (first
    |(go_at_call 48;refine (pa2 w0 hb0).mono ?_;rintro e w1 ⟨rfl,hb1⟩;obtain⟨c0,f0⟩:=(r1.below hb0).below hb1;have bb1:=bb0.trans (hb1.mono bb0.size))
    |(go_at_call 43;refine pc.mono ?_;rintro e w0 ⟨rfl,hb0⟩;have bb0:=bX.trans (hb0.mono bX.size)))
   exact bodyPost_ret (v:=.tuple #[.agg #[.slice none 0 0],wrongV a aE]) (by simp[results,results25,go_sem,c0]) rfl (RB.out _ (bb1.setCell (p:=⟨w.heap.size,0,none⟩) (Nat.le_refl _) _))
  | ok fns rest =>
   rw[hP] at hA
   simp only[hP] at pa
   obtain⟨hsm,hfl⟩:=small_of ht hsd hP (by rw[len_data];omega)
   have pa2:∀w1,Below (w.alloc (Obj.cells #[.slice none 0 0] 57)).heap.size (w.alloc (Obj.cells #[.slice none 0 0] 57)) w1→Calls prog 48 #[.string s] w1 fun e w'=>(∃v xs,e=.returned (.tuple #[v,.nilIface])∧RowAt w' (w.heap.size+1≤·) 66 4 v xs.length (fnCells xs)∧FnsRep w' (w.heap.size+1≤·) xs fns)∧Below w1.heap.size w1 w':=fun w1 hb=>(pa w1 hb).mono fun e w' h=>⟨by
    obtain⟨v,xs,h1,h2,h3⟩:=h.2
    have hz:=hb.size
    rw[hXs] at hz
    exact⟨v,xs,h1,h2.weaken fun k hk=>by omega,h3.weaken fun k hk=>by omega⟩,h.1⟩
   have cn:=fun v xs w' hr hF hN hl=>checkNames_any v xs fns w' (w.heap.size+1≤·) (E 4) (E 6) (E 5) hr hF hN hsm hl
   clear pa hlen ht hts hE
   cases hM:nmAll [] fns with
   | some x =>
    obtain⟨c,p⟩:=x
    rw[hM] at cn
    have e:answer s.size ts=some (codeN c,p):=by rw[hA];simp only[chk,hM]
    have e2:errN (some (c,p)) (E 4) (E 6) (E 5)=wrongV p (E (codeN c)):=by
     simp only[errN,codeN]
     split
     ·rfl
     ·split<;>rfl
    rw[e2] at cn
    have RB:Hid (∀w',Below w.heap.size w w'→readPost w s.size ts E (.returned (.tuple #[.agg #[.slice none 0 0],wrongV p (E (codeN c))])) w'):=fun w' hb=>read_bad e rfl hb
    clear e e2 hM hA hP
    generalize E (codeN c)=aE at *
    generalize readPost w s.size ts E=Q at *
    go_enter func25,ntmps25
    go_wp2_with (first
     |(go_at_call 49;refine (cn v xs w1 hr1 hF1 hN1 hl1).mono ?_;rintro e w2 ⟨rfl,hb2⟩;obtain⟨c0,f0⟩:=r2.below hb2;have bb2:=bb1.trans (hb2.mono bb1.size))
     |(go_at_call 48;refine (pa2 w0 hb0).mono ?_;rintro e w1 ⟨⟨v,xs,rfl,hr1,hF1⟩,hb1⟩;have r2:=(r1.below hb0).below hb1;have bb1:=bb0.trans (hb1.mono bb0.size);have hE1:=(hEX.below hb0).below hb1;have hN1:ErrsN w1 (E 4) (E 6) (E 5):=⟨hE1.e4,hE1.e6,hE1.e5⟩;have hl1:xs.length≤100000:=by rw[hF1.length];omega)
     |(go_at_call 43;refine pc.mono ?_;rintro e w0 ⟨rfl,hb0⟩;have bb0:=bX.trans (hb0.mono bX.size)))
    exact bodyPost_ret (v:=.tuple #[.agg #[.slice none 0 0],wrongV p aE]) (by simp[results,results25,go_sem,c0]) rfl (RB.out _ (bb2.setCell (p:=⟨w.heap.size,0,none⟩) (Nat.le_refl _) _))
   | none =>
    rw[hM,show errN none (E 4) (E 6) (E 5)=.nilIface from rfl] at cn
    have cm2:∀ad n cap xs w' w2,RowAt w' (w.heap.size+1≤·) 66 4 (.slice ad n cap) xs.length (fnCells xs)→FnsRep w' (w.heap.size+1≤·) xs fns→Below w'.heap.size w' w2→xs.length≤100000→Calls prog 50 #[.agg #[.slice ad n cap]] w2 fun e w'=>e=.returned (.bool (mainP fns))∧Below w2.heap.size w2 w':=fun ad n cap xs w' w2 hr hF hb hl=>by
     have:=hasMain_any ad n cap xs _ w2 _ hF.ifs (row_below hr hb) (hF.lens hsm) hl
     rw[mainOk_rep hF] at this
     exact this
    cases hm:mainP fns with
    | true =>
     have e:answer s.size ts=none:=by rw[hA];simp only[chk,hM,hm,if_true]
     have RG:Hid (∀(ad:Option Addr) (n cap:Nat) (xs:List FnV) (w1 w':World),RowAt w1 (w.heap.size+1≤·) 66 4 (.slice ad n cap) xs.length (fnCells xs)→FnsRep w1 (w.heap.size+1≤·) xs fns→xs.length≤100000→Touch (·=w.heap.size) w1 w'→Below w.heap.size w w'→readPost w s.size ts E (.returned (.tuple #[.agg #[.slice ad n cap],.nilIface])) w'):=by
      intro ad n cap xs w1 w' h1 h2 h3 h4 h5
      refine⟨⟨ad,n,cap,by rw[e];rfl,fun fns2 rest2 g1 _=>?_⟩,h5⟩
      rw[hP] at g1
      cases g1
      have hS:Same (w.heap.size+1≤·) w1 w':=fun k hk hlt=>h4.block k hlt (by omega)
      exact⟨xs,(h1.keep hS).weaken fun k hk=>by have:=hk.1;omega,(h2.keep hS).weaken fun k hk=>by have:=hk.1;omega,h3,hsm⟩
     rw[hm] at cm2
     clear e hM hm hA hP
     generalize readPost w s.size ts E=Q at *
     go_enter func25,ntmps25
     go_wp2_with (first
      |(go_at_call 50;refine (cm2 _ _ _ xs w1 _ hr1 hF1 (hb2.alloc hb2.size _) hl1).mono ?_;rintro e w3 ⟨rfl,hb3⟩;obtain⟨c0,f0⟩:=(r3.below (below1 _ _)).below hb3;have m7:=Below.cellv hb3 (new_cell1 w2 (.slice vad vn vcap) 57);have bb3:=(bb2.alloc bb2.size (Obj.cells #[.slice vad vn vcap] 57)).trans (hb3.mono (bb2.alloc bb2.size (Obj.cells #[.slice vad vn vcap] 57)).size);have hl2:=hb2.size)
      |(go_at_call 49;refine (cn _ xs w1 hr1 hF1 hN1 hl1).mono ?_;rintro e w2 ⟨rfl,hb2⟩;have r3:=r2.below hb2;have bb2:=bb1.trans (hb2.mono bb1.size))
      |(go_at_call 48;refine (pa2 w0 hb0).mono ?_;rintro e w1 ⟨⟨v,xs,rfl,hr1,hF1⟩,hb1⟩;obtain⟨vad,vn,vcap,rfl⟩:=row_slice hr1;have r2:=(r1.below hb0).below hb1;have bb1:=bb0.trans (hb1.mono bb0.size);have hE1:=(hEX.below hb0).below hb1;have hN1:ErrsN w1 (E 4) (E 6) (E 5):=⟨hE1.e4,hE1.e6,hE1.e5⟩;have hl1:xs.length≤100000:=by rw[hF1.length];omega)
      |(go_at_call 43;refine pc.mono ?_;rintro e w0 ⟨rfl,hb0⟩;have bb0:=bX.trans (hb0.mono bX.size)))
     refine bodyPost_ret (v:=.tuple #[.agg #[.slice vad vn vcap],.nilIface]) (by simp[results,results25,go_sem,c0]) rfl (RG.out vad vn vcap xs w1 _ hr1 hF1 hl1 ?_ (bb3.setCell (p:=⟨w.heap.size,0,none⟩) (Nat.le_refl _) _))
     exact ((Touch.of_below (S:=(·=w.heap.size)) (hb2.alloc hb2.size _)).trans (Touch.of_below hb3)).setCell (p:=⟨w.heap.size,0,none⟩) (Or.inl rfl) _
    | false =>
     have e:answer s.size ts=some (7,s.size):=by rw[hA];simp[chk,hM,hm]
     have RB:Hid (∀w',Below w.heap.size w w'→readPost w s.size ts E (.returned (.tuple #[.agg #[.slice none 0 0],wrongV s.size (E 7)])) w'):=fun w' hb=>read_bad e rfl hb
     rw[hm] at cm2
     clear e hM hm hA hP
     generalize readPost w s.size ts E=Q at *
     go_enter func25,ntmps25
     go_wp2_with (first
      |(go_at_call 50;refine (cm2 _ _ _ xs w1 _ hr1 hF1 (hb2.alloc hb2.size _) hl1).mono ?_;rintro e w3 ⟨rfl,hb3⟩;obtain⟨c0,f0⟩:=(r3.below (below1 _ _)).below hb3;have eM:=Below.cellv hb3 (Below.cellv (below1 w2 (Obj.cells #[.slice vad vn vcap] 57)) eM2);have bb3:=(bb2.alloc bb2.size (Obj.cells #[.slice vad vn vcap] 57)).trans (hb3.mono (bb2.alloc bb2.size (Obj.cells #[.slice vad vn vcap] 57)).size))
      |(go_at_call 49;refine (cn _ xs w1 hr1 hF1 hN1 hl1).mono ?_;rintro e w2 ⟨rfl,hb2⟩;have r3:=r2.below hb2;have bb2:=bb1.trans (hb2.mono bb1.size);have eM2:=(hE1.below hb2).e7)
      |(go_at_call 48;refine (pa2 w0 hb0).mono ?_;rintro e w1 ⟨⟨v,xs,rfl,hr1,hF1⟩,hb1⟩;obtain⟨vad,vn,vcap,rfl⟩:=row_slice hr1;have r2:=(r1.below hb0).below hb1;have bb1:=bb0.trans (hb1.mono bb0.size);have hE1:=(hEX.below hb0).below hb1;have hN1:ErrsN w1 (E 4) (E 6) (E 5):=⟨hE1.e4,hE1.e6,hE1.e5⟩;have hl1:xs.length≤100000:=by rw[hF1.length];omega)
      |(go_at_call 43;refine pc.mono ?_;rintro e w0 ⟨rfl,hb0⟩;have bb0:=bX.trans (hb0.mono bX.size)))
     go_region
     all_goals (try go_wp2)
     all_goals refine bodyPost_ret (v:=.tuple #[.agg #[.slice none 0 0],wrongV s.size (E 7)]) (by simp[results,results25,go_sem,c0]) rfl (RB.out _ ?_)
     all_goals first
      | exact bb3.setCell (p:=⟨w.heap.size,0,none⟩) (Nat.le_refl _) _
      | exact (bb3.setCell (p:=⟨w.heap.size,0,none⟩) (Nat.le_refl _) _).drew
      | exact bb3.drew
end Go.Proofs.YtifhgjpglicjbaaGreatDoor
