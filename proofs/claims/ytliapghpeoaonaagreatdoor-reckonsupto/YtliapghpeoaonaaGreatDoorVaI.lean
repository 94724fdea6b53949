/-
  The program: reading a value: lists.
-/
import Derived.Test.YtliapghpeoaonaaGreatDoorVaE
set_option maxHeartbeats 4000000
set_option maxRecDepth 8000
namespace Go.Proofs.YtliapghpeoaonaaGreatDoor
open Go.Proofs.Tryz
open Go.RowKit
attribute [local go_sem ↓] Go.wp_at_zero Go.wp_at_succ
theorem Tryz.infoVVal:(prog.info? 81).map (fun i=>(i.zero,i.size,i.bytes))=some (some .nilIface,1,16):=by kernel_rfl
theorem Zaa.grown {S:Nat→Prop}{w a b:World}{row:Option Nat}(h:Zaa S w a)(hg:a.grownBy b row)(hr:∀k,row=some k→w.heap.size≤k):Zaa S w b:=by
 refine⟨hg.os.trans h.os,hg.tape.trans h.tape,hg.output.trans h.output,Nat.le_trans h.size hg.size,fun k hk hS=>?_⟩
 rw[hg.block k (Nat.lt_of_lt_of_le hk h.size) (fun e=>by have:=hr k e.symm;omega)]
 exact h.block k hk hS
theorem Zje:∀(a b:List PV),Zbh (a++b)=Zbh a+Zbh b
 | [],b=>by simp[Zbh]
 | v::r,b=>by rw[List.cons_append,Zbh,Zbh,Zje r b];omega
theorem Zm3 {D:Nat→Prop}{w4 w6:World}{o:Obj}{ad:Option Addr}{n cap:Nat}{vs:List PV}{cs:List Value}{v:PV}{x v':Value}(_hlt:∀g,(Value.slice ad n cap).ownBlock=some g→g<w4.heap.size)
  (val4:VLs w4 (fun b=>D b∧some b≠(Value.slice ad n cap).ownBlock) vs cs) (hx:VL w4 (fun b=>D b∧some b≠(Value.slice ad n cap).ownBlock) v x)
  (hgrow:(w4.alloc o).grownBy w6 (Value.slice ad n cap).ownBlock) (hob:v'.ownBlock=(Value.slice ad n cap).ownBlock∨v'.ownBlock=some (w4.alloc o).heap.size) :
  VLs w6 (fun b=>D b∧some b≠v'.ownBlock) (vs++[v]) (cs++[x]):=by
 have h5:VLs w4 (fun b=>D b∧some b≠(Value.slice ad n cap).ownBlock) (vs++[v]) (cs++[x]):=VLs.append (VLs.one hx) val4
 refine h5.map fun sl m xs hseg=>?_
 have k1:=hseg.keep (w':=w6) fun k hk hlt2=>by rw[hgrow.block k (by simp;omega) hk.2];exact Below.heap_alloc _ _ _ hlt2
 refine k1.weaken fun k hk=>⟨hk.1.1,?_⟩
 rcases hob with h | h
 ·rw[h];exact hk.1.2
 ·rw[h]
  intro e
  have:=hk.2
  simp at e
  omega
structure LB (D:Nat→Prop)(w wr:World)(rb:Nat)(s:ByteArray)(q k:Nat)(ad:Option Addr)(cap:Nat)(vs:List PV)(cs:List Value):Prop where
 own:wr.ownsRow w.heap.size 81 1 (.slice ad vs.length cap) vs.length cs
 val:VLs wr (fun b=>D b∧some b≠(Value.slice ad vs.length cap).ownBlock) vs cs
 tch:Zaa (·=rb) w wr
 rd:RdB wr rb s q (k+Zbh vs)
 le:k+Zbh vs≤600
theorem LB.row {D:Nat→Prop}{w wr:World}{rb:Nat}{s:ByteArray}{q k:Nat}{ad:Option Addr}{cap:Nat}{vs:List PV}{cs:List Value}(h:LB D w wr rb s q k ad cap vs cs):∀g,(Value.slice ad vs.length cap).ownBlock=some g→w.heap.size≤g∧g<wr.heap.size:=fun g e=>h.own.lt g e
theorem LB.touch {D:Nat→Prop}{w wr X:World}{rb:Nat}{s:ByteArray}{q q' k:Nat}{ad:Option Addr}{cap:Nat}{vs:List PV}{cs:List Value}(h:LB D w wr rb s q k ad cap vs cs)(hD:¬ D rb)(hr:rb<w.heap.size)(ht:Zaa (·=rb) wr X)(hX:RdB X rb s q' (k+Zbh vs)):LB D w X rb s q' k ad cap vs cs :=
 ⟨Zay h.own fun g hg=>ht.block g (h.row g hg).2 (by have:=(h.row g hg).1;show ¬ g=rb;omega),h.val.touch ht fun g hg e=>hD (by have e:g=rb:=e;rw[←e];exact hg.1),h.tch.trans ht,hX,h.le⟩
theorem LB.step {D:Nat→Prop}{w wr w4 w6:World}{rb:Nat}{s:ByteArray}{q q' k:Nat}{ad:Option Addr}{cap:Nat}{vs:List PV}{cs:List Value}{o:Obj}{v:PV}{x v':Value}(h:LB D w wr rb s q k ad cap vs cs)(hD:¬ D rb)(hr:rb<w.heap.size)(ht:Zaa (·=rb) wr w4)(hX:RdB w4 rb s q' (k+Zbh vs+wtV v))(hle:k+Zbh vs+wtV v≤600)
  (hv:VL w4 (fun b=>D b∧some b≠(Value.slice ad vs.length cap).ownBlock) v x) (hown:w6.ownsRow w.heap.size 81 1 v' (vs.length+1) (cs++[x])) (hgrow:(w4.alloc o).grownBy w6 (Value.slice ad vs.length cap).ownBlock) (hob:v'.ownBlock=(Value.slice ad vs.length cap).ownBlock∨v'.ownBlock=some (w4.alloc o).heap.size) :
  ∃ad' cap',v'=.slice ad' (vs++[v]).length cap'∧LB D w w6 rb s q' k ad' cap' (vs++[v]) (cs++[x]):=by
 obtain⟨ad',cap',rfl⟩:=Zaf hown
 have sz:=ht.size
 have ew:Zbh (vs++[v])=Zbh vs+wtV v:=by rw[Zje];simp[Zbh]
 have el:(vs++[v]).length=vs.length+1:=by simp
 refine⟨ad',cap',by rw[el],?_,?_,?_,?_,?_⟩
 ·rw[el];exact hown
 ·rw[el]
  exact Zm3 (fun g hg=>Nat.lt_of_lt_of_le (h.row g hg).2 sz) (h.val.touch ht fun g hg e=>hD (by have e:g=rb:=e;rw[←e];exact hg.1)) hv hgrow hob
 ·exact ((h.tch.trans ht).alloc o).grown hgrow fun g hg=>(h.row g hg).1
 ·rw[ew,←Nat.add_assoc]
  refine hX.same ?_
  rw[hgrow.block rb (by simp;have:=Zag hX.blk;omega) (fun e=>by have:=(h.row rb e.symm).1;omega)]
  exact Below.heap_alloc _ _ _ (Zag hX.blk)
 ·rw[ew];omega
def Zle (D:Nat→Prop)(w:World)(rb:Nat)(s:ByteArray)(k:Nat)(o:Option (PV×List UInt8))(e:Ending)(w':World):Prop :=
 Zaa (·=rb) w w'∧((∃v x q,o=some (v,s.data.toList.drop q)∧k+wtV v≤600∧e=.returned (.tuple #[x,.nilIface])∧VL w' D v x∧RdB w' rb s q (k+wtV v)) ∨
  ((∀v r,o=some (v,r)→600<k+wtV v)∧∃b p' k',e=.returned (.tuple #[.nilIface,.iface 146 (.string b)])∧RdB w' rb s p' k'))
def ValDo (s:ByteArray)(m:Nat):Prop:=∀(D:Nat→Prop) (w:World) (rb p k:Nat),RdB w rb s p k→Zl4 w→15≤rb→¬ D rb→(∀g,w.heap.size≤g→D g)→k≤600→s.size-p≤m →
 Calls prog 116 #[.pointer (some ⟨rb,0,none⟩)] w (Zle D w rb s k (Zhl (s.data.toList.drop p)))
def Zn6 (D:Nat→Prop)(w:World)(rb:Nat)(s:ByteArray)(k:Nat)(o:Option (List PV×List UInt8))(e:Ending)(w':World):Prop :=
 Zaa (·=rb) w w'∧((∃vs x q,o=some (vs,s.data.toList.drop q)∧k+Zbh vs≤600∧e=.returned (.tuple #[x,.nilIface])∧VL w' D (.lst vs) x∧RdB w' rb s q (k+Zbh vs)) ∨
  ((∀vs r,o=some (vs,r)→600<k+Zbh vs)∧∃b p' k',e=.returned (.tuple #[.nilIface,.iface 146 (.string b)])∧RdB w' rb s p' k'))
theorem ls_close {D:Nat→Prop}{w wr X Y:World}{rb:Nat}{s:ByteArray}{q q' k:Nat}{ad:Option Addr}{cap:Nat}{vs:List PV}{cs:List Value}{o:Option (List PV×List UInt8)}(h:LB D w wr rb s q k ad cap vs cs)(hD:¬ D rb)(hD2:∀g,w.heap.size≤g→D g)(hr:rb<w.heap.size)(ho:o=some (vs,s.data.toList.drop q'))(ht:Zaa (·=rb) wr X)(hX:RdB X rb s q' (k+Zbh vs))(hb:Below X.heap.size X Y):
  Zn6 D w rb s k o (.returned (.tuple #[.iface 233 (.agg #[.slice ad vs.length cap,.int .i64 ((Zbh vs:Nat):Int)]),.nilIface])) Y:=by
 have l2:=h.touch hD hr ht hX
 refine⟨l2.tch.below_at hb,Or.inl ⟨vs,_,q',ho,h.le,rfl,?_,hX.below hb⟩⟩
 rw[VL]
 exact⟨_,cs,rfl,((Zar.of_row (Zao.of_owns l2.own)).below hb).weaken hD2,(l2.val.below hb).weaken fun g hg=>hg.1⟩
theorem Zvk {D:Nat→Prop}{w X:World}{rb:Nat}{s:ByteArray}{q' k k':Nat}{o:Option (List PV×List UInt8)}{b:ByteArray}(ho:∀vs r,o=some (vs,r)→600<k+Zbh vs)(ht:Zaa (·=rb) w X)(hX:RdB X rb s q' k'):
  Zn6 D w rb s k o (.returned (.tuple #[.nilIface,.iface 146 (.string b)])) X:=⟨ht,Or.inr ⟨ho,b,q',k',rfl,hX⟩⟩
theorem Z3r {us vs:List PV}{o:Option (List PV×List UInt8)}{r:List UInt8}(h:Zr6 us o=some (vs,r)):∃ws,o=some (ws,r)∧vs=us++ws:=by
 cases o with
 | none=>simp[Zr6] at h
 | some x=>obtain⟨a,b⟩:=x;simp only[Zr6,Option.some.injEq,Prod.mk.injEq] at h;exact⟨a,by rw[h.2],h.1.symm⟩
theorem Zzd {v:PV}{vs:List PV}{o:Option (List PV×List UInt8)}{r:List UInt8}(h:Zze v o=some (vs,r)):∃ws,o=some (ws,r)∧vs=v::ws:=by
 cases o with
 | none=>simp[Zze] at h
 | some x=>obtain⟨a,b⟩:=x;simp only[Zze,Option.some.injEq,Prod.mk.injEq] at h;exact⟨a,by rw[h.2],h.1.symm⟩
theorem ls_bad {k:Nat}{R:Option (List PV×List UInt8)}{us:List PV}{b:Bool}{l:List UInt8}(hR:R=Zr6 us (Zky b l))(h:Zad 41 l=false)(h2:b=false→Zad 32 l=true)(hv:∀v r,Zhl (if b then l else l.drop 1)=some (v,r)→600<k+Zbh us+wtV v):∀vs r,R=some (vs,r)→600<k+Zbh vs:=by
 intro vs r e
 subst hR
 obtain⟨ws,e1,rfl⟩:=Z3r e
 cases hO:Zhl (if b then l else l.drop 1) with
 | none=>rw[Zmm h h2 hO] at e1;cases e1
 | some x =>
  obtain⟨v,r'⟩:=x
  rw[Zjt h h2 hO] at e1
  obtain⟨us2,_,rfl⟩:=Zzd e1
  have:=hv v r' hO
  rw[Zje,Zbh]
  omega
theorem Z13 {R:Option (List PV×List UInt8)}{us:List PV}{b:Bool}{l r:List UInt8}{v:PV}(hR:R=Zr6 us (Zky b l))(h:Zad 41 l=false)(h2:b=false→Zad 32 l=true)(hv:Zhl (if b then l else l.drop 1)=some (v,r)):R=Zr6 (us++[v]) (Zky (us++[v]).isEmpty r):=by
 have e:(us++[v]).isEmpty=false:=by cases us<;>rfl
 rw[hR,Zjt h h2 hv,Zop,e]
theorem list_at {m:Nat}{s:ByteArray}(ih:ValDo s m){D:Nat→Prop}{w:World}{rb p k:Nat}(h:RdB w rb s p k)(hG:Zl4 w)(hr:15≤rb)(hD:¬ D rb)(hD2:∀g,w.heap.size≤g→D g)(hk:k≤600)(hm:s.size-p≤m):
  Calls prog 164 #[.pointer (some ⟨rb,0,none⟩)] w (Zn6 D w rb s k (Zky true (s.data.toList.drop p))):=by
 have hrl:rb<w.heap.size:=Zag h.blk
 obtain⟨R,hR⟩:∃R,Zky true (s.data.toList.drop p)=R:=⟨_,rfl⟩
 have HR:Aside (Zky true (s.data.toList.drop p)=R):=hR
 rw[hR]
 clear hR
 have hs:=h.hs
 go_enter func164,ntmps164
 go_wp2_with fail
 go_loopg [4] (s.size-p) (fun gh iv wr=>∃(q:Nat) (vs:List PV) (cs:List Value) (ad:Option Addr) (cap:Nat),gh=s.size-q∧iv=.slice ad vs.length cap∧p≤q∧LB D w wr rb s q k ad cap vs cs∧Aside (R=Zr6 vs (Zky vs.isEmpty (s.data.toList.drop q))))
 case atStart=>exact⟨p,[],[],none,0,rfl,rfl,Nat.le_refl _,⟨World.ownsRow_nil _ _ _ _,by rw[VLs],Zaa.refl _ _,by simpa[Zbh] using h,by simpa[Zbh] using hk⟩,by show _=_;rw[Zw7];exact HR.out.symm⟩
 case round =>
  obtain⟨q,vs,cs,ad,cap,rfl,rfl,hpq,lb,hP⟩:=hrel
  have hqs:=lb.rd.hp
  have CT:Hid (Calls prog 163 #[.pointer (some ⟨rb,0,none⟩),.string ⟨#[41]⟩] wr _):=Zkj lb.rd 41
  have hvl:vs.length≤600:=by
   have:=lb.le
   have:∀l:List PV,l.length≤Zbh l:=fun l=>by
    induction l with
    | nil=>simp
    | cons a r ih=>rw[Zbh,List.length_cons];have:1≤wtV a:=Zf1 a;omega
   have:=this vs
   omega
  cases hc:Zad 41 (s.data.toList.drop q) with
  | true =>
   rw[hc] at CT
   simp only[if_true] at CT
   have HRR:Aside (R=some (vs,s.data.toList.drop (q+1))):=by
    show _=_
    rw[hP.out,Zpu hc]
    simp[Zr6,List.drop_drop]
   have CN:Hid (∀X,Zaa (·=rb) wr X→RdB X rb s (q+1) (k+Zbh vs)→Calls prog 201 #[.slice ad vs.length cap] X _):=fun X ht hX=>Zei D vs _ cs X ((Zar.of_row (Zao.of_owns (lb.touch hD hrl ht hX).own)).weaken hD2) ((lb.touch hD hrl ht hX).val.weaken fun g hg=>hg.1) (by have:=lb.le;omega)
   have FIN:Hid (∀X Y,Zaa (·=rb) wr X→RdB X rb s (q+1) (k+Zbh vs)→Below X.heap.size X Y→Zn6 D w rb s k R (.returned (.tuple #[.iface 233 (.agg #[.slice ad vs.length cap,.int .i64 ((Zbh vs:Nat):Int)]),.nilIface])) Y):=fun X Y ht hX hb=>ls_close lb hD hD2 hrl HRR.out ht hX hb
   clear hP hc lb h hG ih HR HRR
   go_wp2_with (first
    |(go_at_call 163;refine CT.out.mono ?_;rintro e w1 ⟨ht1,rfl,h1⟩)
    |(go_at_call 201;refine (CN.out _ ht1 h1).mono ?_;rintro e w2 ⟨rfl,hb2⟩))
   go_ret2
   exact FIN.out _ _ ht1 h1 hb2
  | false =>
   rw[hc] at CT
   simp only[Bool.false_eq_true,if_false] at CT
   by_cases hv0:vs.length=0
   ·obtain rfl:vs=[]:=List.eq_nil_of_length_eq_zero hv0
    have hE:([]:List PV).isEmpty=true:=rfl
    rw[hE] at hP
    have MORE:Hid (∀v q4,Zhl (s.data.toList.drop (q))=some (v,s.data.toList.drop q4)→Aside (R=Zr6 (([]:List PV)++[v]) (Zky (([]:List PV)++[v]).isEmpty (s.data.toList.drop q4)))):=fun v q4 ho=>Z13 hP.out hc (fun h=>by cases h) (by simpa[List.drop_drop] using ho)
    have BAD:Hid ((∀v r,Zhl (s.data.toList.drop (q))=some (v,r)→600<k+Zbh ([]:List PV)+wtV v)→∀us r,R=some (us,r)→600<k+Zbh us):=fun hno=>ls_bad hP.out hc (fun h=>by cases h) fun v r ho=>hno v r (by simpa[List.drop_drop] using ho)
    have CV:Hid (∀X,Zaa (·=rb) wr X→RdB X rb s (q) (k+Zbh ([]:List PV))→Calls prog 116 #[.pointer (some ⟨rb,0,none⟩)] X (Zle (fun b=>D b∧some b≠(Value.slice ad ([]:List PV).length cap).ownBlock) X rb s (k+Zbh ([]:List PV)) (Zhl (s.data.toList.drop (q))))):=fun X ht hX=>ih _ X rb _ _ hX (hG.touch (lb.tch.trans ht) hr) hr (fun h=>hD h.1) (fun g hg=>⟨hD2 g (by have:=lb.tch.size;have:=ht.size;omega),fun e=>by have:=(lb.row g e.symm).2;have:=ht.size;omega⟩) lb.le (by omega)
    clear hP h hG ih HR
    clear hE hv0 hvl
    go_wp2_with (go_at_call 163;refine CT.out.mono ?_;rintro e w1 ⟨ht1,rfl,h1⟩)
    refine (CV.out _ ht1 h1).mono ?_
    rintro e w4 ⟨ht4,⟨v,x,q4,ho,hle,rfl,hv,h4⟩ | ⟨hno,b,p',k',rfl,h4⟩⟩
    ·obtain⟨tv,xv,rfl⟩:=hv.iface
     have htw:Zaa (·=rb) wr w4:=(ht1).trans ht4
     have hsz4:w.heap.size≤w4.heap.size:=Nat.le_trans lb.tch.size htw.size
     have HM:=MORE.out _ _ ho
     have hq4:q4≤s.size:=h4.hp
     have hlt4:q<q4:=by
      have:=Zpt (show rdV _ _=some (v,s.data.toList.drop q4) from ho)
      rw[List.length_drop,List.length_drop,Zax] at this
      omega
     have own4:w4.ownsRow w.heap.size 81 1 (.slice ad ([]:List PV).length cap) ([]:List PV).length cs:=Zay lb.own fun g hg=>htw.block g (lb.row g hg).2 (by have:=(lb.row g hg).1;show ¬ g=rb;omega)
     have own4:w4.ownsRow w.heap.size 81 1 (.slice ad 0 cap) 0 cs:=own4
     have ST:=fun w6 v' o=>LB.step (w6:=w6) (v':=v') (o:=o) lb hD hrl htw h4 hle hv
     have STH:Hid (∀w6 v' o,_):=ST
     clear ST CV BAD MORE hv ho CT
     go_wp2_with (at_builtin;obtain⟨i0,hi,hz0,hz1,hz2⟩:=info_parts Tryz.infoVVal;go_loud (refine wpList_append_own_at _ rfl _ _ 82 rfl w.heap.size 81 i0 .nilIface 1 16 underlying82 hi hz0 hz1 hz2 rfl (by decide) _ _ _ rfl (own4.alloc _) ⟨w4.heap.size,0,none⟩ 1 1 [.iface tv xv] rfl rfl (cell_one_new _ _ _) (fun x hx=>by simp at hx;subst hx;rfl) (by unfold maxLen;omega) (by omega) (by simp;omega) ?_);intro v' w6 hown' hgrow hnil hob;clear hi hz0 hz1 hz2)
     go_roundg (s.size-q4)
     case measure=>omega
     case rel =>
      obtain⟨ad',cap',rfl,lb'⟩:=STH.out _ _ _ hown' hgrow hob
      exact⟨q4,_,_,ad',cap',rfl,rfl,by omega,lb',HM⟩
    ·have FIN:Hid (Zn6 D w rb s k R (.returned (.tuple #[.nilIface,.iface 146 (.string b)])) w4):=Zvk (BAD.out hno) (lb.tch.trans ((ht1).trans ht4)) h4
     clear CV BAD MORE CT
     go_wp2_with fail
     go_ret2
     exact FIN.out
   ·have hE:vs.isEmpty=false:=by cases vs with
     | nil=>exact absurd rfl hv0
     | cons a r=>rfl
    rw[hE] at hP
    have hv0i:(0:Int)<(vs.length:Int):=by omega
    have CT2:Hid (∀X,RdB X rb s q (k+Zbh vs)→Calls prog 163 #[.pointer (some ⟨rb,0,none⟩),.string ⟨#[32]⟩] X _):=fun X hX=>Zkj hX 32
    cases hb:Zad 32 (s.data.toList.drop q) with
    | false =>
     rw[hb] at CT2
     simp only[Bool.false_eq_true,if_false] at CT2
     have FIN:Hid (∀X Y b,Zaa (·=rb) wr X→Zaa (·=rb) X Y→RdB Y rb s q (k+Zbh vs)→Zn6 D w rb s k R (.returned (.tuple #[.nilIface,.iface 146 (.string b)])) Y):=fun X Y b h1 h2 h3=>Zvk (fun us r e=>by rw[hP.out,Znr hc hb] at e;cases e) (lb.tch.trans (h1.trans h2)) h3
     clear hP h hG ih HR hE
     go_wp2_with (first
      |(go_at_call 163;refine (CT2.out _ h1).mono ?_;rintro e w2 ⟨ht2,rfl,h2⟩)
      |(go_at_call 163;refine CT.out.mono ?_;rintro e w1 ⟨ht1,rfl,h1⟩))
     go_ret2
     exact FIN.out _ _ _ ht1 ht2 h2
    | true =>
     rw[hb] at CT2
     simp only[if_true] at CT2
     have MORE:Hid (∀v q4,Zhl (s.data.toList.drop (q+1))=some (v,s.data.toList.drop q4)→Aside (R=Zr6 (vs++[v]) (Zky (vs++[v]).isEmpty (s.data.toList.drop q4)))):=fun v q4 ho=>Z13 hP.out hc (fun _=>hb) (by simpa[List.drop_drop] using ho)
     have BAD:Hid ((∀v r,Zhl (s.data.toList.drop (q+1))=some (v,r)→600<k+Zbh vs+wtV v)→∀us r,R=some (us,r)→600<k+Zbh us):=fun hno=>ls_bad hP.out hc (fun _=>hb) fun v r ho=>hno v r (by simpa[List.drop_drop] using ho)
     have CV:Hid (∀X,Zaa (·=rb) wr X→RdB X rb s (q+1) (k+Zbh vs)→Calls prog 116 #[.pointer (some ⟨rb,0,none⟩)] X (Zle (fun b=>D b∧some b≠(Value.slice ad vs.length cap).ownBlock) X rb s (k+Zbh vs) (Zhl (s.data.toList.drop (q+1))))):=fun X ht hX=>ih _ X rb _ _ hX (hG.touch (lb.tch.trans ht) hr) hr (fun h=>hD h.1) (fun g hg=>⟨hD2 g (by have:=lb.tch.size;have:=ht.size;omega),fun e=>by have:=(lb.row g e.symm).2;have:=ht.size;omega⟩) lb.le (by omega)
     clear hP h hG ih HR
     clear hE
     go_wp2_with (first
      |(go_at_call 163;refine (CT2.out _ h1).mono ?_;rintro e w2 ⟨ht2,rfl,h2⟩)
      |(go_at_call 163;refine CT.out.mono ?_;rintro e w1 ⟨ht1,rfl,h1⟩))
     refine (CV.out _ (ht1.trans ht2) h2).mono ?_
     rintro e w4 ⟨ht4,⟨v,x,q4,ho,hle,rfl,hv,h4⟩ | ⟨hno,b,p',k',rfl,h4⟩⟩
     ·obtain⟨tv,xv,rfl⟩:=hv.iface
      have htw:Zaa (·=rb) wr w4:=(ht1.trans ht2).trans ht4
      have hsz4:w.heap.size≤w4.heap.size:=Nat.le_trans lb.tch.size htw.size
      have HM:=MORE.out _ _ ho
      have hq4:q4≤s.size:=h4.hp
      have hlt4:q+1<q4:=by
       have:=Zpt (show rdV _ _=some (v,s.data.toList.drop q4) from ho)
       rw[List.length_drop,List.length_drop,Zax] at this
       omega
      have own4:w4.ownsRow w.heap.size 81 1 (.slice ad vs.length cap) vs.length cs:=Zay lb.own fun g hg=>htw.block g (lb.row g hg).2 (by have:=(lb.row g hg).1;show ¬ g=rb;omega)
      have ST:=fun w6 v' o=>LB.step (w6:=w6) (v':=v') (o:=o) lb hD hrl htw h4 hle hv
      have STH:Hid (∀w6 v' o,_):=ST
      clear ST CV BAD MORE hv ho CT
      go_wp2_with (at_builtin;obtain⟨i0,hi,hz0,hz1,hz2⟩:=info_parts Tryz.infoVVal;go_loud (refine wpList_append_own_at _ rfl _ _ 82 rfl w.heap.size 81 i0 .nilIface 1 16 underlying82 hi hz0 hz1 hz2 rfl (by decide) _ _ _ rfl (own4.alloc _) ⟨w4.heap.size,0,none⟩ 1 1 [.iface tv xv] rfl rfl (cell_one_new _ _ _) (fun x hx=>by simp at hx;subst hx;rfl) (by unfold maxLen;omega) (by omega) (by simp;omega) ?_);intro v' w6 hown' hgrow hnil hob;clear hi hz0 hz1 hz2)
      go_roundg (s.size-q4)
      case measure=>omega
      case rel =>
       obtain⟨ad',cap',rfl,lb'⟩:=STH.out _ _ _ hown' hgrow hob
       exact⟨q4,_,_,ad',cap',rfl,rfl,by omega,lb',HM⟩
     ·have FIN:Hid (Zn6 D w rb s k R (.returned (.tuple #[.nilIface,.iface 146 (.string b)])) w4):=Zvk (BAD.out hno) (lb.tch.trans ((ht1.trans ht2).trans ht4)) h4
      clear CV BAD MORE CT
      go_wp2_with fail
      go_ret2
      exact FIN.out
theorem va_fail {D:Nat→Prop}{w X:World}{rb:Nat}{s:ByteArray}{q' k k':Nat}{o:Option (PV×List UInt8)}{b:ByteArray}(ho:∀v r,o=some (v,r)→600<k+wtV v)(ht:Zaa (·=rb) w X)(hX:RdB X rb s q' k'):
  Zle D w rb s k o (.returned (.tuple #[.nilIface,.iface 146 (.string b)])) X:=⟨ht,Or.inr ⟨ho,b,q',k',rfl,hX⟩⟩
theorem Zpc {m:Nat}{s:ByteArray}(ih:∀m',m=m'+1→ValDo s m'):ValDo s m:=by
 intro D w rb p k h hG hr hD hD2 hk hm
 have CW:=Zwb h 1 (by omega)
 by_cases hw:k+1≤600
 ·have CW1:Hid (Calls prog 162 #[.pointer (some ⟨rb,0,none⟩),.int .i64 1] w fun e w'=>Zaa (·=rb) w w'∧RdB w' rb s p (k+1)∧e=.returned .nilIface):=CW.mono fun e w' ⟨a,b,c⟩=>⟨a,b,by rcases c with c | c;exact c.2;omega⟩
  have CT:Hid (∀X,RdB X rb s p (k+1)→Calls prog 163 #[.pointer (some ⟨rb,0,none⟩),.string ⟨#[40]⟩] X _):=fun X hX=>Zkj hX 40
  have CQ:Hid (∀X,RdB X rb s p (k+1)→Calls prog 163 #[.pointer (some ⟨rb,0,none⟩),.string ⟨#[39]⟩] X _):=fun X hX=>Zkj hX 39
  clear CW
  cases h40:Zad 40 (s.data.toList.drop p) with
  | true =>
   rw[h40] at CT
   simp only[if_true] at CT
   have hlt:=Zsr h40
   obtain⟨m',rfl⟩:∃m',m=m'+1:=⟨m-1,by omega⟩
   have e1:(s.data.toList.drop p).drop 1=s.data.toList.drop (p+1):=by rw[List.drop_drop]
   have CL:Hid (∀X,Zaa (·=rb) w X→RdB X rb s (p+1) (k+1)→Calls prog 164 #[.pointer (some ⟨rb,0,none⟩)] X fun e w'=>Zle D w rb s k (Zhl (s.data.toList.drop p)) e w'∧∃x y,e=.returned (.tuple #[x,y])):=fun X ht hX=>(list_at (ih m' rfl) hX (hG.touch ht hr) hr hD (fun g hg=>hD2 g (by have:=ht.size;omega)) hw (by omega)).mono fun e w' hh=>by
    rw[Zs0 h40,e1]
    obtain⟨a,⟨vs,x,q,ho,hle,he,hv,hx⟩ | ⟨hno,b,p',k',he,hx⟩⟩:=hh
    ·refine⟨⟨ht.trans a,Or.inl ⟨.lst vs,x,q,by rw[ho];rfl,by rw[wtV];omega,he,hv,?_⟩⟩,_,_,he⟩
     have:k+wtV (.lst vs)=k+1+Zbh vs:=by rw[wtV];omega
     rw[this]
     exact hx
    ·refine⟨⟨ht.trans a,Or.inr ⟨fun v r e=>?_,b,p',k',he,hx⟩⟩,_,_,he⟩
     cases hL:Zky true (s.data.toList.drop (p+1)) with
     | none=>rw[hL] at e;cases e
     | some y =>
      obtain⟨vs,r'⟩:=y
      rw[hL] at e
      cases e
      have:=hno vs _ hL
      rw[wtV]
      omega
   clear ih h hG h40 e1
   go_enter func116,ntmps116
   go_wp2_with (first
    |(go_at_call 162;refine CW1.out.mono ?_;rintro e w1 ⟨ht1,h1,rfl⟩)
    |(go_at_call 163;refine (CT.out _ h1).mono ?_;rintro e w2 ⟨ht2,rfl,h2⟩)
    |(go_at_call 164;refine (CL.out _ (ht1.trans ht2) h2).mono ?_;rintro e w3 ⟨hp3,x,y,rfl⟩))
   go_ret2
   exact hp3
  | false =>
   rw[h40] at CT
   simp only[Bool.false_eq_true,if_false] at CT
   cases h39:Zad 39 (s.data.toList.drop p) with
   | true =>
    rw[h39] at CQ
    simp only[if_true] at CQ
    have e1:(s.data.toList.drop p).drop 1=s.data.toList.drop (p+1):=by rw[List.drop_drop]
    have CL:Hid (∀X,Zaa (·=rb) w X→RdB X rb s (p+1) (k+1)→Calls prog 165 #[.pointer (some ⟨rb,0,none⟩)] X fun e w'=>Zle D w rb s k (Zhl (s.data.toList.drop p)) e w'∧∃x y,e=.returned (.tuple #[x,y])):=fun X ht hX=>(Z0v hX hw).mono fun e w' hh=>by
     rw[Zsz h40 h39,e1]
     have hrn:=Zwi Zc0 s (p+1) hX.hp
     obtain⟨a,⟨h1,hle,⟨t,htt,he⟩,hx⟩ | ⟨hno,x,p',k',⟨b,rfl⟩,he,hx⟩⟩:=hh
     ·have hl:(List.take (Zbd Zc0 (s.data.toList.drop (p+1))) (s.data.toList.drop (p+1))).length=Zbd Zc0 (s.data.toList.drop (p+1)):=by rw[List.length_take,List.length_drop,Zax];omega
      refine⟨⟨ht.trans a,Or.inl ⟨.txt _,_,_,by rw[if_pos h1,List.drop_drop,List.drop_drop],?_,he,?_,?_⟩⟩,_,_,he⟩
      ·rw[wtV,hl];omega
      ·rw[VL];exact⟨t,htt,rfl⟩
      ·have:k+wtV (.txt (List.take (Zbd Zc0 (s.data.toList.drop (p+1))) (s.data.toList.drop (p+1))))=k+1+Zbd Zc0 (s.data.toList.drop (p+1)):=by rw[wtV,hl];omega
       rw[this]
       exact hx
     ·refine⟨⟨ht.trans a,Or.inr ⟨fun v r e=>?_,b,p',k',he,hx⟩⟩,_,_,he⟩
      have hl:(List.take (Zbd Zc0 (s.data.toList.drop (p+1))) (s.data.toList.drop (p+1))).length=Zbd Zc0 (s.data.toList.drop (p+1)):=by rw[List.length_take,List.length_drop,Zax];omega
      split at e
      ·rename_i h1
       cases e
       have:=hno h1
       rw[wtV,hl]
       omega
      ·cases e
    clear ih h hG h40 h39 e1
    go_enter func116,ntmps116
    go_wp2_with (first
     |(go_at_call 162;refine CW1.out.mono ?_;rintro e w1 ⟨ht1,h1,rfl⟩)
     |(go_at_call 163;refine (CQ.out _ h2).mono ?_;rintro e w3 ⟨ht3,rfl,h3⟩)
     |(go_at_call 163;refine (CT.out _ h1).mono ?_;rintro e w2 ⟨ht2,rfl,h2⟩)
     |(go_at_call 165;refine (CL.out _ ((ht1.trans ht2).trans ht3) h3).mono ?_;rintro e w4 ⟨hp4,x,y,rfl⟩))
    go_ret2
    exact hp4
   | false =>
    rw[h39] at CQ
    simp only[Bool.false_eq_true,if_false] at CQ
    have CL:Hid (∀X,Zaa (·=rb) w X→RdB X rb s p (k+1)→Calls prog 166 #[.pointer (some ⟨rb,0,none⟩)] X fun e w'=>Zle D w rb s k (Zhl (s.data.toList.drop p)) e w'∧∃x y,e=.returned (.tuple #[x,y])):=fun X ht hX=>(Z1h hX (hG.touch ht hr) hr).mono fun e w' hh=>by
     rw[Zwk h40 h39]
     obtain⟨a,⟨z,ho,he,hx⟩ | ⟨hno,x,⟨b,rfl⟩,he,hx⟩⟩:=hh
     ·refine⟨⟨ht.trans a,Or.inl ⟨.num z,_,_,by rw[ho,Option.map_some,List.drop_drop],by rw[wtV];omega,he,by rw[VL],?_⟩⟩,_,_,he⟩
      rw[wtV]
      exact hx
     ·refine⟨⟨ht.trans a,Or.inr ⟨fun v r e=>?_,b,_,_,he,hx⟩⟩,_,_,he⟩
      rw[hno] at e
      cases e
    clear ih h hG h40 h39
    go_enter func116,ntmps116
    go_wp2_with (first
     |(go_at_call 162;refine CW1.out.mono ?_;rintro e w1 ⟨ht1,h1,rfl⟩)
     |(go_at_call 163;refine (CQ.out _ h2).mono ?_;rintro e w3 ⟨ht3,rfl,h3⟩)
     |(go_at_call 163;refine (CT.out _ h1).mono ?_;rintro e w2 ⟨ht2,rfl,h2⟩)
     |(go_at_call 166;refine (CL.out _ ((ht1.trans ht2).trans ht3) h3).mono ?_;rintro e w4 ⟨hp4,x,y,rfl⟩))
    go_ret2
    exact hp4
 ·have CW1:Hid (Calls prog 162 #[.pointer (some ⟨rb,0,none⟩),.int .i64 1] w fun e w'=>Zaa (·=rb) w w'∧RdB w' rb s p (k+1)∧∃b:ByteArray,e=.returned (.iface 146 (.string b))):=CW.mono fun e w' ⟨a,b,c⟩=>⟨a,b,by
   rcases c with c | ⟨_,x,⟨d,rfl⟩,c⟩
   ·omega
   ·exact⟨d,c⟩⟩
  have FIN:Hid (∀X b,Zaa (·=rb) w X→RdB X rb s p (k+1)→Zle D w rb s k (Zhl (s.data.toList.drop p)) (.returned (.tuple #[.nilIface,.iface 146 (.string b)])) X):=fun X b ht hX=>va_fail (fun v r _=>by have:=Zf1 v;omega) ht hX
  clear CW ih h hG
  go_enter func116,ntmps116
  go_wp2_with (go_at_call 162;refine CW1.out.mono ?_;rintro e w1 ⟨ht1,h1,b,rfl⟩)
  go_ret2
  exact FIN.out _ _ ht1 h1
theorem Zsf (s:ByteArray):∀m,ValDo s m
 | 0=>Zpc fun m' h=>by omega
 | m+1=>Zpc fun m' h=>by
  have:m'=m:=by omega
  rw[this]
  exact Zsf s m
def Zf6       (w : World) (o : Option PV) (e : Ending) (w' : World) : Prop := Below w.heap.size w w' ∧
  ((∃ v x, o = some v ∧ e = .returned (.tuple #[x, .nilIface]) ∧ VL w' (w.heap.size < ·) v x) ∨
   (o = none ∧ ∃ (z : Int) (b : ByteArray), e = .returned (.tuple #[.nilIface, .iface 240 (.agg #[.int .i64 z, .iface 146 (.string b)])])))
theorem vread_ok {w X:World}{s:ByteArray}{v:PV}{x:Value}(hb:Below w.heap.size w X)(h1:Zfv s.data.toList=some v)(h2:VL X (w.heap.size<·) v x):Zf6 w (Zfv s.data.toList) (.returned (.tuple #[x,.nilIface])) X:=⟨hb,Or.inl ⟨v,x,h1,rfl,h2⟩⟩
theorem Zwc {w X:World}{s b:ByteArray}{z:Int}(hb:Below w.heap.size w X)(h1:Zfv s.data.toList=none):Zf6 w (Zfv s.data.toList) (.returned (.tuple #[.nilIface,.iface 240 (.agg #[.int .i64 z,.iface 146 (.string b)])])) X:=⟨hb,Or.inr ⟨h1,z,b,rfl⟩⟩
theorem Read_any (s:ByteArray)(w:World)(hs:s.size≤1000000000000)(hG:Zl4 w)(hw:15≤w.heap.size):
  Calls prog 67 #[.string s] w (Zf6 w (Zfv s.data.toList)):=by
 have bX:=Zab w (Obj.cells #[.string s,.int .i64 0,.int .i64 0] 237)
 have hX:RdB (w.alloc (Obj.cells #[.string s,.int .i64 0,.int .i64 0] 237)) w.heap.size s 0 0:=⟨heap_alloc_new _ _,Nat.zero_le _,hs,by omega⟩
 have CV:=Zsf s s.size (w.heap.size<·) _ w.heap.size 0 0 hX (hG.below bX) hw (Nat.lt_irrefl _) (fun g hg=>by simp at hg;omega) (by omega) (by omega)
 rw[List.drop_zero] at CV
 have hsi:((s.size:Nat):Int)≤1000000000000:=by omega
 have OK:Hid (∀{v:PV} {q:Nat},Zhl s.data.toList=some (v,s.data.toList.drop q)→q≤s.size→wtV v≤600→Zfv s.data.toList=if q=s.size then some v else none):=fun {v q} h1 h2 h3=>by
  rw[Zqz,h1]
  have:(s.data.toList.drop q=[]) ↔ q=s.size:=by rw[List.drop_eq_nil_iff,Zax];omega
  simp only[this,h3,and_true]
 have NO:Hid ((∀v r,Zhl s.data.toList=some (v,r)→600<0+wtV v)→Zfv s.data.toList=none):=fun h=>by
  rw[Zqz]
  split
  ·rename_i v r hh
   have:=h v r hh
   rw[if_neg (by omega)]
  ·rfl
 clear hG
 go_enter func67,ntmps67
 go_wp2_with fail
 refine CV.mono ?_
 rintro e w1 ⟨ht1,⟨v,x,q,ho,hle,rfl,hv,h1⟩ | ⟨hno,b,p',k',rfl,h1⟩⟩
 ·obtain⟨tv,xv,rfl⟩:=hv.iface
  have hbw:Below w.heap.size w w1:=Zaa.fresh bX ht1 (fun g hg=>by show ¬ g=_;omega)
  obtain⟨d0,d1,d2,df,dl⟩:=h1.cells
  have hr:=OK.out ho h1.hp (by omega)
  have hqs:=h1.hp
  by_cases hq:q=s.size
  ·rw[if_pos hq] at hr
   have FIN:Hid (Zf6 w (Zfv s.data.toList) (.returned (.tuple #[.iface tv xv,.nilIface])) w1):=vread_ok hbw hr hv
   clear CV OK NO hv ho hr h1 hX
   subst hq
   go_wp2_with fail
   go_ret2
   exact FIN.out
  ·rw[if_neg hq] at hr
   have FIN:Hid (∀X z b,Below w.heap.size w X→Zf6 w (Zfv s.data.toList) (.returned (.tuple #[.nilIface,.iface 240 (.agg #[.int .i64 z,.iface 146 (.string b)])])) X):=fun X z b hb=>Zwc hb hr
   have hqi:¬ ((q:Nat):Int)=((s.size:Nat):Int):=by omega
   clear CV OK NO hv ho hr h1 hX hq
   go_wp2_with fail
   go_quiet (fail)
   go_wp2_with fail
   go_ret2
   exact FIN.out _ _ _ (below_drewN hbw _)
 ·have hbw:Below w.heap.size w w1:=Zaa.fresh bX ht1 (fun g hg=>by show ¬ g=_;omega)
  obtain⟨d0,d1,d2,df,dl⟩:=h1.cells
  have FIN:Hid (∀X z b,Below w.heap.size w X→Zf6 w (Zfv s.data.toList) (.returned (.tuple #[.nilIface,.iface 240 (.agg #[.int .i64 z,.iface 146 (.string b)])])) X):=fun X z b hb=>Zwc hb (NO.out hno)
  clear CV OK NO h1 hX hno
  go_wp2_with fail
  go_quiet (fail)
  go_wp2_with fail
  go_ret2
  exact FIN.out _ _ _ (below_drewN hbw _)
end Go.Proofs.YtliapghpeoaonaaGreatDoor
