/-
  expr of the parser, out of what exprs does.
-/
import Derived.Test.YtliapghpeoaonaaGreatDoorForm
set_option maxHeartbeats 2000000
namespace Go.Proofs.YtliapghpeoaonaaGreatDoor
open Go.Proofs.Tryz
open Go.RowKit
attribute [local go_sem ↓] Go.wp_at_zero Go.wp_at_succ
theorem expr_any {g pb rb:Nat}{s:ByteArray}{aT aD:Addr}(IH:Zjc g pb rb s aT aD){w:World}{p d:Nat}(h:Pz w pb rb s aT aD p d){t:Tok}{ts:List Tok}(hts:t.k≠.eof→Za4 s.data.toList p ts)(hbad:t.k≠.bad)(hg:ts.length≤g+1)(hnum:t.k=.num→Zuf t.body)
  (bd:ByteArray) (hbd:bd.data.toList=Zmf t.k t.body) :
  Calls prog 224 #[.pointer (some ⟨pb,0,none⟩),Zui (Zbq t.k) t.at_ bd] w (Zw1 (pE (pL g) d (t::ts)) w pb rb s aT aD d):=by
 have hlt:=h.lt
 have q0:Zbq .eof=0:=rfl
 have q1:Zbq .opn=1:=rfl
 have q2:Zbq .cls=2:=rfl
 have q3:Zbq .num=3:=rfl
 have q4:Zbq .txt=4:=rfl
 have q5:Zbq .word=5:=rfl
 cases hk:t.k with
 | bad=>exact absurd hk hbad
 | num =>
  have e:pE (pL g) d (t::ts)=.ok (.num t.body) ts:=by simp only[pE,hk]
  have hb:bd.data.toList=t.body:=by rw[hbd,hk];rfl
  have cn:=fun w=>Ztc t.at_ bd w (by rw[hb];exact hnum hk)
  rw[hb] at cn
  rw[e]
  go_enter func224,ntmps224
  go_wp2_with (go_at_call 255;refine (cn _).mono ?_;rintro e w1 ⟨rfl,hb1⟩)
  go_ret2
  refine⟨((PT.refl w).alloc _).below hb1,_,p,rfl,?_,(h.alloc _).keep hb1,hts (by rw[hk];decide)⟩
  rw[Zc8]
  exact⟨_,rfl⟩
 | txt =>
  have e:pE (pL g) d (t::ts)=.ok (.txt (Zj5 t.body)) ts:=by simp only[pE,hk]
  rw[e]
  go_enter func224,ntmps224
  go_wp2
  go_ret2
  refine⟨(PT.refl w).alloc _,_,p,rfl,?_,h.alloc _,hts (by rw[hk];decide)⟩
  rw[Zc8]
  exact⟨_,bd,by rw[hbd,hk];rfl,rfl⟩
 | word =>
  have hb:bd.data.toList=t.body:=by rw[hbd,hk];rfl
  cases hr:Zci t.body with
  | true =>
   have e:pE (pL g) d (t::ts)=.err 2 t.at_:=by simp[pE,hk,hr]
   rw[e]
   have cn:=fun w hc=>Zn2 5 t.at_ bd w aT hc (by rw[hb];simp[Zly,hr])
   go_enter func224,ntmps224
   obtain⟨n0,n1,n2,n3⟩:=Zdz w (.int .i64 5) (.int .i64 ((t.at_:Nat):Int)) (.string bd) 310
   go_wp2_with (go_at_call 222;refine (cn _ ?_).mono ?_;(exact (h.alloc _).eT);rintro e w1 ⟨rfl,hb1⟩;have m1:=Below.cellv hb1 n1;have hl1:=Zae m1)
   go_ret2
   exact⟨(((PT.refl w).alloc _).below hb1).alloc _,_,rfl⟩
  | false =>
   have e:pE (pL g) d (t::ts)=.ok (.var t.body t.at_) ts:=by simp[pE,hk,hr]
   rw[e]
   have cn:=fun w=>Zn1 5 t.at_ bd w (by rw[hb];simp[Zly,hr])
   go_enter func224,ntmps224
   obtain⟨n0,n1,n2,n3⟩:=Zdz w (.int .i64 5) (.int .i64 ((t.at_:Nat):Int)) (.string bd) 310
   go_wp2_with (go_at_call 222;refine (cn _).mono ?_;rintro e w1 ⟨rfl,hb1⟩;have m1:=Below.cellv hb1 n1;have hl1:=Zae m1)
   go_ret2
   refine⟨(((PT.refl w).alloc _).below hb1).alloc _,_,p,rfl,?_,((h.alloc _).keep hb1).alloc _,hts (by rw[hk];decide)⟩
   rw[Zc8]
   exact⟨bd,hb,rfl⟩
 | opn =>
  by_cases hd:d=16
  ·subst hd
   have e:pE (pL g) 16 (t::ts)=.err 3 t.at_:=by simp[pE,hk]
   rw[e]
   go_enter func224,ntmps224
   go_wp2_with (go_at_call 184;refine (Zzb (h.alloc _) t.at_ bd).mono ?_;rintro e w1 ⟨rfl,hb1⟩)
   go_ret2
   exact⟨((PT.refl w).alloc _).below hb1,_,rfl⟩
  ·have e:pE (pL g) d (t::ts)=pF (pL g) (d+1) ts:=by simp[pE,hk,hd]
   rw[e]
   have hts':=hts (by rw[hk];decide)
   generalize hR:pF (pL g) (d+1) ts=R
   have HR:Hid (pF (pL g) (d+1) ts=R):=hR
   clear hR e
   go_enter func224,ntmps224
   obtain⟨n0,n1,n2,n3⟩:=Zdz w (.int .i64 1) (.int .i64 ((t.at_:Nat):Int)) (.string bd) 310
   have ne1:w.heap.size≠pb:=by omega
   have ne2:w.heap.size≠rb:=by omega
   go_wp2_with (go_at_call 184;refine (Zrx (h.alloc _) t.at_ bd hd).mono ?_;rintro e w1 ⟨rfl,pt1,hz1⟩;have m1:=pt1.cell n1 ne1 ne2)
   refine (form_any t.at_ IH hz1 hts' hg).mono ?_
   rw[HR.out]
   rintro e w2 ⟨pt2,hr⟩
   have hs1:=(((PT.refl (pb:=pb) (rb:=rb) w).alloc (Obj.cells #[.int .i64 1,.int .i64 ((t.at_:Nat):Int),.string bd] 310)).trans pt1)
   have hs2:=hs1.size
   cases R with
   | err c a =>
    obtain⟨x,rfl⟩:=hr
    go_wp2
    go_ret2
    exact⟨hs1.trans pt2,_,rfl⟩
   | ok ex rest =>
    obtain⟨v,q,rfl,hrep,hz2,hq2⟩:=hr
    go_wp2
    go_ret2
    exact⟨hs1.trans pt2,_,q,rfl,hrep.weaken fun k hk=>by omega,hz2,hq2⟩
 | eof =>
  have e:pE (pL g) d (t::ts)=.err 2 t.at_:=by simp only[pE,hk]
  rw[e]
  go_enter func224,ntmps224
  go_wp2_with (go_at_call 184;refine (Zmq (h.alloc _) 0 t.at_ bd (by decide)).mono ?_;rintro e w1 ⟨rfl,hb1⟩)
  go_ret2
  exact⟨((PT.refl w).alloc _).below hb1,_,rfl⟩
 | cls =>
  have e:pE (pL g) d (t::ts)=.err 2 t.at_:=by simp only[pE,hk]
  rw[e]
  go_enter func224,ntmps224
  go_wp2_with (go_at_call 184;refine (Zmq (h.alloc _) 2 t.at_ bd (by decide)).mono ?_;rintro e w1 ⟨rfl,hb1⟩)
  go_ret2
  exact⟨((PT.refl w).alloc _).below hb1,_,rfl⟩
theorem Tryz.infoExpr:(prog.info? 141).map (fun i=>(i.zero,i.size,i.bytes))=some (some .nilIface,1,16):=by kernel_rfl
theorem Zql (p:UInt8→Bool):∀(l:List UInt8),l.take (Zbd p l)=l.takeWhile p
 | []=>rfl
 | a::l=>by
  cases h:p a
  ·simp[Zbd,h]
  ·rw[Zb1 p a l h]
   simp[h,Zql p l]
theorem Zn3 (p:UInt8→Bool):∀(l:List UInt8) (c:UInt8),c∈l.takeWhile p→p c=true
 | [],c,h=>by cases h
 | a::l,c,h=>by
  cases ha:p a
  ·simp[ha] at h
  ·simp only[List.takeWhile_cons,ha,if_true,List.mem_cons] at h
   rcases h with rfl | h
   ·exact ha
   ·exact Zn3 p l c h
theorem numL_ok {l:List UInt8}{n:Nat}(h:Znx l=some n):Zuf (l.take n):=by
 have hr:=Zdb Zav (Zaj l)
 unfold Znx at h
 split at h
 ·cases h
 ·rename_i hh
  simp only[Option.some.injEq] at h
  subst h
  have key:Zaj (l.take (l.length-(Zaj l).length+Zbd Zav (Zaj l)))=(Zaj l).take (Zbd Zav (Zaj l)):=by
   cases hs:Zad 45 l with
   | true =>
    have hu:Zaj l=l.drop 1:=by simp[Zaj,hs]
    cases l with
    | nil=>simp[Zad] at hs
    | cons c r =>
     simp only[List.drop_succ_cons,List.drop_zero] at hu
     rw[hu]
     have e:(c::r).length-r.length+Zbd Zav r=Zbd Zav r+1:=by simp;omega
     rw[e,List.take_succ_cons]
     have hs2:Zad 45 (c::r.take (Zbd Zav r))=true:=by simpa[Zad] using hs
     simp[Zaj,hs2]
   | false =>
    have hu:Zaj l=l:=by simp[Zaj,hs]
    rw[hu,Nat.sub_self,Nat.zero_add]
    have hs2:Zad 45 (l.take (Zbd Zav l))=false:=by
     cases l with
     | nil=>rfl
     | cons c r =>
      cases hd:Zav c
      ·simp[Zbd,hd,Zad]
      ·rw[Zb1 Zav c r hd]
       simpa[Zad] using hs
    simp[Zaj,hs2]
  refine⟨fun c hc=>?_,?_,?_⟩
  ·rw[key,Zql] at hc
   exact Zn3 Zav _ c hc
  ·rw[key,List.length_take];omega
  ·rw[key,List.length_take];omega
theorem Zri {l:List UInt8}(h:(Zal l).1=.num):Zuf (l.take (Zal l).2):=by
 cases l with
 | nil=>simp[Zal] at h
 | cons c r =>
  simp only[Zal] at h ⊢
  split at h
  ·cases h
  split at h
  ·cases h
  rename_i a1 a2
  simp only[a1,a2,if_false,Bool.false_eq_true]
  split at h
  ·exact absurd (Zdo h (by decide)).1 (by decide)
  rename_i a3
  simp only[a3,if_false,Bool.false_eq_true]
  split at h
  ·rename_i a4
   simp only[a4,if_true]
   obtain⟨_,n,h1,h2⟩:=Zdo h (by decide)
   rw[h2]
   exact numL_ok h1
  split at h
  ·exact absurd (Zdo h (by decide)).1 (by decide)
  ·cases h
theorem Za4.num {s:List UInt8}{p:Nat}{t:Tok}{ts:List Tok}(h:Za4 s p (t::ts))(hk:t.k=.num):Zuf t.body:=by
 have e:Zah s p=t:=by cases h<;>rfl
 rw[←e] at hk ⊢
 exact Zri hk
theorem pL_go {f d : Nat} {m : Int} {t : Tok} {ts : List Tok} (h0 : ¬ m = 0) (hc : m < 0 → t.k ≠ .cls) : pL (f + 1) d m (t :: ts) = match pE (pL f) d (t :: ts) with
      | .err c a => .err c a
      | .ok e r => Zgh   e (pL f d (if m < 0 then m else m - 1) r) := by
  have : ¬ (m = 0 ∨ (m < 0 ∧ t.k = .cls)) := by
    rintro (g | ⟨g1, g2⟩)
    · exact h0 g
    · exact hc g1 g2
  simp only [pL, this, if_false]
  cases pE (pL f) d (t :: ts) <;> rfl
theorem Zy7 {F pb rb:Nat}{s:ByteArray}{aT aD:Addr}(IH:∀g,g<F→Zjc g pb rb s aT aD):Zjc F pb rb s aT aD:=by
 intro ts d p m w hF hm1 hm3 hP hts
 have hlen:=hts.len (by rw[Zax];exact hP.hp)
 rw[Zax] at hlen
 have hs2:=hP.hs
 have hlt:=hP.lt
 have h15:=hP.h1
 go_enter func188,ntmps188
 go_wp2
 go_loopg [6] ts.length (fun k v wr=>∃f es vs ts2 q2,k=ts2.length∧ts2.length≤f∧f≤F∧es.length+ts2.length≤ts.length∧(0≤m→(es.length:Int)≤m)∧wr.ownsRow w.heap.size 141 1 v vs.length vs∧Zbj wr (fun k=>w.heap.size≤k∧some k≠v.ownBlock) es vs∧PT pb rb w wr∧Pz wr pb rb s aT aD q2 (d+1)∧Za4 s.data.toList q2 ts2∧pL F (d+1) m ts=Zor es (pL f (d+1) (if m<0 then m else m-es.length) ts2))
 case atStart =>
  refine⟨F,[],[],ts,p,rfl,hF,Nat.le_refl _,by simp,fun h=>by simpa using h,World.ownsRow_nil _ _ _ _,by rw[Zbj],PT.refl w,hP,hts,?_⟩
  have:(if m<0 then m else m-(([]:List Ex).length:Int))=m:=by split<;>simp
  rw[this]
  cases pL F (d+1) m ts<;>rfl
 case round =>
  obtain⟨f,es,vs,ts2,q2,rfl,hf1,hf2,hcount,hmle,hown,hrep,hptr,hzr,hq3,heq⟩:=hrel
  obtain⟨t2,ts3,rfl⟩:=hq3.ne
  have r1:=hzr.rdr
  have HE:Aside (pL F (d+1) m ts=Zor es (pL f (d+1) (if m<0 then m else m-es.length) (t2::ts3))):=heq
  clear heq
  have hltr:=hzr.lt
  have hszr:=hptr.size
  have HV:Hid (vs.length=es.length):=hrep.length
  have qc:Zbq K.cls=2:=rfl
  simp only[List.length_cons] at hcount hf1
  obtain⟨f,rfl⟩:∃f',f=f'+1:=⟨f-1,by omega⟩
  obtain⟨ad,cap,rfl⟩:=Zaf hown
  by_cases hbad:t2.k=.bad
  ·have cn:=Zgy hzr hq3 hbad
   have hP':pL F (d+1) m ts=.err 2 t2.at_:=by rw[HE.out,pL_bad hbad];rfl
   rw[hP']
   go_wp2_with (go_at_call 144;refine cn.mono ?_;rintro e w3 ⟨rfl,hpt5⟩)
   go_ret2
   exact⟨(hptr.trans hpt5).alloc _,_,_,_,rfl⟩
  have cn:=Zc1 hzr hq3 hbad
  have hvl2:(vs.length:Int)=(es.length:Int):=by rw[HV.out]
  have tN:m<0→((vs.length:Int)==m)=false:=fun h=>by simp;omega
  have t0:m<0→m=-1:=fun h=>by omega
  have HV2:Hid ((vs.length:Int)=(es.length:Int)):=hvl2
  clear hvl2
  -- the bracket that closes
  have close_ok:t2.k=.cls→(m<0∨(es.length:Int)=m)→pL F (d+1) m ts=.ok es ts3:=fun hc hm=>by
   rw[HE.out]
   rcases hm with hm | hm
   ·simp[pL,hc,Zor,hm]
   ·have:¬ m<0:=by omega
    simp[pL,hc,Zor,this,hm]
  by_cases hfin:(0≤m∧(es.length:Int)=m)∨(m<0∧t2.k=.cls)
  ·have tA:((vs.length:Int)==m || (m == -1&&Zbq t2.k==2))=true:=by
    rcases hfin with ⟨_,g⟩ | ⟨g,g2⟩
    ·simp[HV2.out,g]
    ·simp[t0 g,g2,qc]
   by_cases hcls:t2.k=.cls
   ·have hP':=close_ok hcls (by rcases hfin with ⟨_,g⟩ | ⟨g,_⟩;exact Or.inr g;exact Or.inl g)
    rw[hP']
    rw[hcls] at cn tA
    rw[qc] at tA
    have HF:Hid (0≤m→(vs.length:Int)=m):=fun h=>by rw[HV2.out];omega
    clear HE IH close_ok hP' hfin tN t0 hmle
    by_cases hv:(vs.length:Int)=m
    ·have hv2:((vs.length:Int)==m)=true:=by simpa using hv
     clear hv tA
     go_wp2_with (first
      |(go_at_call 144;refine cn.mono ?_;rintro e w3 ⟨bd3,rfl,hbd,hbz,hpt5,q5,hz5,hq5⟩)
      |(go_at_call 223;refine (Zrj (hz5.alloc _) t2.at_ bd3).mono ?_;rintro e w4 ⟨rfl,hpt6,hz6⟩))
     go_ret2
     have own4:w4.ownsRow w.heap.size 141 1 _ vs.length vs:=Zc5 hown ((hpt5.alloc _).trans hpt6) (fun k hk=>by rintro (g | g)<;>omega)
     have rep4:Zbj w4 (w.heap.size≤·) es vs:=(hrep.keep (Zkt ((hpt5.alloc _).trans hpt6) (fun k hk=>by have:=hk.1;omega))).weaken fun k hk=>hk.1.1
     exact⟨((hptr.trans hpt5).alloc _).trans hpt6,_,vs,q5,rfl,Zao.of_owns own4,rep4,HF.out,hz6,hq5 (by decide)⟩
    ·have hv2:((vs.length:Int)==m)=false:=by simpa using hv
     have hm:m=-1:=by
      rw[hv2] at tA
      simp at tA
      exact tA
     subst hm
     clear hv tA
     go_wp2_with (first
      |(go_at_call 144;refine cn.mono ?_;rintro e w3 ⟨bd3,rfl,hbd,hbz,hpt5,q5,hz5,hq5⟩)
      |(go_at_call 223;refine (Zrj (hz5.alloc _) t2.at_ bd3).mono ?_;rintro e w4 ⟨rfl,hpt6,hz6⟩))
     go_ret2
     have own4:w4.ownsRow w.heap.size 141 1 _ vs.length vs:=Zc5 hown ((hpt5.alloc _).trans hpt6) (fun k hk=>by rintro (g | g)<;>omega)
     have rep4:Zbj w4 (w.heap.size≤·) es vs:=(hrep.keep (Zkt ((hpt5.alloc _).trans hpt6) (fun k hk=>by have:=hk.1;omega))).weaken fun k hk=>hk.1.1
     exact⟨((hptr.trans hpt5).alloc _).trans hpt6,_,vs,q5,rfl,Zao.of_owns own4,rep4,HF.out,hz6,hq5 (by decide)⟩
   ·have hme:0≤m∧(es.length:Int)=m:=by
     rcases hfin with g | ⟨_,g⟩
     ·exact g
     ·exact absurd g hcls
    have hP':pL F (d+1) m ts=.err 2 t2.at_:=by
     rw[HE.out]
     have:¬ m<0:=by omega
     simp[pL,hcls,Zor,this,hme.2]
    rw[hP']
    have hv2:((vs.length:Int)==m)=true:=by simp[HV2.out,hme.2]
    have hk2:¬ Zbq t2.k=2:=by revert hcls;cases t2.k<;>simp[Zbq]
    clear HE IH close_ok hP' hfin tN t0 hmle hme tA
    go_wp2_with (first
     |(go_at_call 144;refine cn.mono ?_;rintro e w3 ⟨bd3,rfl,hbd,hbz,hpt5,q5,hz5,hq5⟩)
     |(go_at_call 223;refine (leave_no (hz5.alloc _) (Zbq t2.k) t2.at_ bd3 hk2).mono ?_;rintro e w4 ⟨rfl,hb6⟩))
    go_ret2
    exact⟨((hptr.trans hpt5).alloc _).below hb6,_,_,_,rfl⟩
  ·have hnz:¬ (if m<0 then m else m-(es.length:Int))=0:=by
    intro h0
    apply hfin
    split at h0
    ·omega
    ·exact Or.inl ⟨by omega,by omega⟩
   have hnc:(if m<0 then m else m-(es.length:Int))<0→t2.k≠.cls:=by
    intro h0 hc
    split at h0
    ·exact hfin (Or.inr ⟨by omega,hc⟩)
    ·have:=hmle (by omega)
     omega
   have hgo:=pL_go (f:=f) (d:=d+1) (ts:=ts3) hnz hnc
   have hM:∀n:Nat,n=es.length→(if (if m<0 then m else m-(es.length:Int))<0 then (if m<0 then m else m-(es.length:Int)) else (if m<0 then m else m-(es.length:Int))-1)=(if m<0 then m else m-((n+1:Nat):Int)):=by
    intro n hn
    subst hn
    by_cases hm:m<0
    ·simp[hm]
    ·have:=hmle (by omega)
     have h2:¬ (m-(es.length:Int)<0):=by omega
     simp[hm,h2]
     omega
   have HG:Aside (pL F (d+1) m ts=Zor es (match pE (pL f) (d+1) (t2::ts3) with | .err c a=>.err c a | .ok e r=>Zgh e (pL f (d+1) (if m<0 then m else m-((es.length+1:Nat):Int)) r))):=by
    show _=_
    rw[HE.out,hgo,hM es.length rfl]
   have hv2:((vs.length:Int)==m)=false:=by
    simp only[beq_eq_false_iff_ne]
    intro e
    rw[HV2.out] at e
    exact hfin (Or.inl ⟨by omega,e⟩)
   have hkm:(m == -1&&Zbq t2.k==2)=false:=by
    by_cases hm:m=-1
    ·have hc:t2.k≠.cls:=fun e=>hfin (Or.inr ⟨by omega,e⟩)
     have:¬ Zbq t2.k=2:=by revert hc;cases t2.k<;>simp[Zbq]
     simp[hm,this]
    ·simp[hm]
   have hnum:t2.k=.num→Zuf t2.body:=fun h=>hq3.num h
   have IHf:=IH f (by omega)
   clear HE IH close_ok hfin tN t0 hnz hnc hgo hM
   go_wp2_with fail
   refine cn.mono ?_
   rintro e w3 ⟨bd3,rfl,hbd,hbz,hpt5,q5,hz5,hq5⟩
   have ce:=expr_any IHf (hz5.alloc (Obj.cells #[.int .i64 (Zbq t2.k),.int .i64 ((t2.at_:Nat):Int),.string bd3] 310)) hq5 hbad (by omega) hnum bd3 hbd
   clear cn
   by_cases hm:m=-1
   ·have hk2:(Zbq t2.k==2)=false:=by simpa[hm] using hkm
    subst hm
    clear hkm
    go_wp2_with fail
    refine ce.mono ?_
    rintro e w4 ⟨pt6,hr⟩
    have pt7:PT pb rb w w4:=((hptr.trans hpt5).alloc _).trans pt6
    have hsz3:=hpt5.size
    cases hE:pE (pL f) (d+1) (t2::ts3) with
    | err c a =>
     rw[hE] at hr
     obtain⟨x,rfl⟩:=hr
     have HP:Hid (pL F (d+1) ((-1)) ts=.err c a):=show _=_ by rw[HG.out,hE];rfl
     clear HG hE ce IHf
     go_wp2
     go_ret2
     refine⟨pt7,?_⟩
     rw[HP.out]
     exact⟨_,_,_,rfl⟩
    | ok ex rest =>
     rw[hE] at hr
     obtain⟨v,q6,rfl,hrepv,hz6,hq6⟩:=hr
     obtain⟨tv,xv,rfl⟩:=hrepv.iface
     have hl:=Zws (fun d m ts es r=>Zpy f d m ts es r) hE
     simp only[List.length_cons] at hl
     have own4:w4.ownsRow w.heap.size 141 1 (.slice ad vs.length cap) vs.length vs:=Zc5 hown ((hpt5.alloc _).trans pt6) (fun k hk=>by rintro (g | g)<;>omega)
     have hrowlt:∀k,(Value.slice ad vs.length cap).ownBlock=some k→w.heap.size≤k∧k<wr.heap.size:=fun k hk=>hown.lt k hk
     have rep4:Zbj w4 (fun k=>(w.heap.size≤k∧some k≠(Value.slice ad vs.length cap).ownBlock)∧k<wr.heap.size) es vs:=hrep.keep (Zkt ((hpt5.alloc _).trans pt6) (fun k hk=>by have:=hk.1;omega))
     have HG2:Aside (pL F (d+1) ((-1)) ts=Zor (es++[ex]) (pL f (d+1) (if (-1)<0 then (-1) else (-1)-((es.length+1:Nat):Int)) rest)):=by
      show _=_
      rw[HG.out,hE]
      exact Zoq _ _ _
     have hnx:∀k,w3.heap.size+1≤k→some k≠(Value.slice ad vs.length cap).ownBlock:=fun k hk e=>by have:=(hrowlt k e.symm).2;omega
     have hsa:(w3.alloc (Obj.cells #[.int .i64 (Zbq t2.k),.int .i64 ((t2.at_:Nat):Int),.string bd3] 310)).heap.size=w3.heap.size+1:=by simp
     rw[hsa] at hrepv
     have hsz4:w3.heap.size+1≤w4.heap.size:=by have:=pt6.size;rw[hsa] at this;exact this
     have rep5:Zbj w4 (fun k=>w.heap.size≤k∧some k≠(Value.slice ad vs.length cap).ownBlock) (es++[ex]) (vs++[.iface tv xv]):=Zbj.snoc (hrepv.weaken fun k hk=>⟨by omega,hnx k hk⟩) (rep4.weaken fun k hk=>hk.1)
     clear HG hE hrep rep4 hrepv ce IHf
     go_wp2_with (at_builtin;obtain⟨i0,hi,hz0,hz1,hz2⟩:=info_parts Tryz.infoExpr;refine wpList_append_own_at _ rfl _ _ 376 rfl w.heap.size 141 i0 .nilIface 1 16 underlying376 hi hz0 hz1 hz2 rfl (by decide) _ _ _ rfl (own4.alloc _) ⟨w4.heap.size,0,none⟩ 1 1 [.iface tv xv] rfl rfl (cell_one_new _ _ _) (fun x hx=>by simp at hx;subst hx;rfl) (by have:=HV.out;unfold maxLen;omega) (by have:=HV.out;omega) (by simp;omega) ?_;intro v' w6 hown' hgrow hnil hob;clear hi hz0 hz1 hz2)
     go_roundg rest.length
     case measure=>simp;omega
     case rel =>
      have hsg:(w4.alloc (Obj.cells #[.iface tv xv] 141)).heap.size=w4.heap.size+1:=by simp
      have hlen1:(vs++[Value.iface tv xv]).length=vs.length+1:=by simp
      refine⟨f,es++[ex],vs++[.iface tv xv],rest,q6,rfl,by omega,by omega,by simp;omega,?_,by rw[hlen1];exact hown',?_,(pt7.alloc _).grown hgrow (fun k hk=>(hrowlt k hk).1),(hz6.alloc _).grown hgrow (fun k hk=>by have:=hrowlt k hk;omega),hq6,?_⟩
      ·intro h0
       have:=hmle h0
       have hv3:¬ (vs.length:Int)=(-1):=by simp
       rw[HV2.out] at hv3
       simp
       omega
      ·have keep6:=(((rep5.keep (w':=w4.alloc (Obj.cells #[.iface tv xv] 141)) fun k _ hlt=>Below.heap_alloc _ _ _ hlt)).keep (w':=w6) (Zku hgrow (fun k hk=>hk.1.2)))
       refine keep6.weaken fun k hk=>⟨hk.1.1.1,?_⟩
       rcases hob with h | h
       ·rw[h];exact hk.1.1.2
       ·rw[h,hsg]
        intro e
        have:=hk.1.2
        simp only[Option.some.injEq] at e
        omega
      ·rw[HG2.out]
       simp
   ·have hm2:(m == -1)=false:=by simpa using hm
    clear hkm hm
    go_wp2_with fail
    refine ce.mono ?_
    rintro e w4 ⟨pt6,hr⟩
    have pt7:PT pb rb w w4:=((hptr.trans hpt5).alloc _).trans pt6
    have hsz3:=hpt5.size
    cases hE:pE (pL f) (d+1) (t2::ts3) with
    | err c a =>
     rw[hE] at hr
     obtain⟨x,rfl⟩:=hr
     have HP:Hid (pL F (d+1) (m) ts=.err c a):=show _=_ by rw[HG.out,hE];rfl
     clear HG hE ce IHf
     go_wp2
     go_ret2
     refine⟨pt7,?_⟩
     rw[HP.out]
     exact⟨_,_,_,rfl⟩
    | ok ex rest =>
     rw[hE] at hr
     obtain⟨v,q6,rfl,hrepv,hz6,hq6⟩:=hr
     obtain⟨tv,xv,rfl⟩:=hrepv.iface
     have hl:=Zws (fun d m ts es r=>Zpy f d m ts es r) hE
     simp only[List.length_cons] at hl
     have own4:w4.ownsRow w.heap.size 141 1 (.slice ad vs.length cap) vs.length vs:=Zc5 hown ((hpt5.alloc _).trans pt6) (fun k hk=>by rintro (g | g)<;>omega)
     have hrowlt:∀k,(Value.slice ad vs.length cap).ownBlock=some k→w.heap.size≤k∧k<wr.heap.size:=fun k hk=>hown.lt k hk
     have rep4:Zbj w4 (fun k=>(w.heap.size≤k∧some k≠(Value.slice ad vs.length cap).ownBlock)∧k<wr.heap.size) es vs:=hrep.keep (Zkt ((hpt5.alloc _).trans pt6) (fun k hk=>by have:=hk.1;omega))
     have HG2:Aside (pL F (d+1) (m) ts=Zor (es++[ex]) (pL f (d+1) (if m<0 then m else m-((es.length+1:Nat):Int)) rest)):=by
      show _=_
      rw[HG.out,hE]
      exact Zoq _ _ _
     have hnx:∀k,w3.heap.size+1≤k→some k≠(Value.slice ad vs.length cap).ownBlock:=fun k hk e=>by have:=(hrowlt k e.symm).2;omega
     have hsa:(w3.alloc (Obj.cells #[.int .i64 (Zbq t2.k),.int .i64 ((t2.at_:Nat):Int),.string bd3] 310)).heap.size=w3.heap.size+1:=by simp
     rw[hsa] at hrepv
     have hsz4:w3.heap.size+1≤w4.heap.size:=by have:=pt6.size;rw[hsa] at this;exact this
     have rep5:Zbj w4 (fun k=>w.heap.size≤k∧some k≠(Value.slice ad vs.length cap).ownBlock) (es++[ex]) (vs++[.iface tv xv]):=Zbj.snoc (hrepv.weaken fun k hk=>⟨by omega,hnx k hk⟩) (rep4.weaken fun k hk=>hk.1)
     clear HG hE hrep rep4 hrepv ce IHf
     go_wp2_with (at_builtin;obtain⟨i0,hi,hz0,hz1,hz2⟩:=info_parts Tryz.infoExpr;refine wpList_append_own_at _ rfl _ _ 376 rfl w.heap.size 141 i0 .nilIface 1 16 underlying376 hi hz0 hz1 hz2 rfl (by decide) _ _ _ rfl (own4.alloc _) ⟨w4.heap.size,0,none⟩ 1 1 [.iface tv xv] rfl rfl (cell_one_new _ _ _) (fun x hx=>by simp at hx;subst hx;rfl) (by have:=HV.out;unfold maxLen;omega) (by have:=HV.out;omega) (by simp;omega) ?_;intro v' w6 hown' hgrow hnil hob;clear hi hz0 hz1 hz2)
     go_roundg rest.length
     case measure=>simp;omega
     case rel =>
      have hsg:(w4.alloc (Obj.cells #[.iface tv xv] 141)).heap.size=w4.heap.size+1:=by simp
      have hlen1:(vs++[Value.iface tv xv]).length=vs.length+1:=by simp
      refine⟨f,es++[ex],vs++[.iface tv xv],rest,q6,rfl,by omega,by omega,by simp;omega,?_,by rw[hlen1];exact hown',?_,(pt7.alloc _).grown hgrow (fun k hk=>(hrowlt k hk).1),(hz6.alloc _).grown hgrow (fun k hk=>by have:=hrowlt k hk;omega),hq6,?_⟩
      ·intro h0
       have:=hmle h0
       have hv3:¬ (vs.length:Int)=m:=by simpa using hv2
       rw[HV2.out] at hv3
       simp
       omega
      ·have keep6:=(((rep5.keep (w':=w4.alloc (Obj.cells #[.iface tv xv] 141)) fun k _ hlt=>Below.heap_alloc _ _ _ hlt)).keep (w':=w6) (Zku hgrow (fun k hk=>hk.1.2)))
       refine keep6.weaken fun k hk=>⟨hk.1.1.1,?_⟩
       rcases hob with h | h
       ·rw[h];exact hk.1.1.2
       ·rw[h,hsg]
        intro e
        have:=hk.1.2
        simp only[Option.some.injEq] at e
        omega
      ·rw[HG2.out]
       simp
end Go.Proofs.YtliapghpeoaonaaGreatDoor
