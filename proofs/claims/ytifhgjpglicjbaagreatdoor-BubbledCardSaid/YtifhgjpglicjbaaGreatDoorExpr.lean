/-
  expr of the parser, out of what exprs does.
-/
import Derived.Test.YtifhgjpglicjbaaGreatDoorForm
import Derived.Test.YtifhgjpglicjbaaGreatDoorRowK
set_option maxHeartbeats 2000000
namespace Go.Proofs.YtifhgjpglicjbaaGreatDoor
open Go.Proofs.Tryz
open Go.RowKit
attribute [local go_sem ↓] Go.wp_at_zero Go.wp_at_succ
theorem expr_any {g pb rb:Nat}{s:ByteArray}{aT aD:Addr}(IH:ExprsDo g pb rb s aT aD){w:World}{p d:Nat}(h:Pz w pb rb s aT aD p d){t:Tok}{ts:List Tok}(hts:t.k≠.eof→IsToks s.data.toList p ts)(hbad:t.k≠.bad)(hg:ts.length≤g+1)(hnum:t.k=.num→NumOk t.body)
  (bd:ByteArray) (hbd:bd.data.toList=bodyL t.k t.body) :
  Calls prog 136 #[.pointer (some ⟨pb,0,none⟩),tokV (kcode t.k) t.at_ bd] w (exPost (pE (pL g) d (t::ts)) w pb rb s aT aD d):=by
 have hlt:=h.lt
 have q0:kcode .eof=0:=rfl
 have q1:kcode .opn=1:=rfl
 have q2:kcode .cls=2:=rfl
 have q3:kcode .num=3:=rfl
 have q4:kcode .txt=4:=rfl
 have q5:kcode .word=5:=rfl
 cases hk:t.k with
 | bad=>exact absurd hk hbad
 | num =>
  have e:pE (pL g) d (t::ts)=.ok (.num t.body) ts:=by simp only[pE,hk]
  have hb:bd.data.toList=t.body:=by rw[hbd,hk];rfl
  have cn:=fun w=>numberOf_any t.at_ bd w (by rw[hb];exact hnum hk)
  rw[hb] at cn
  rw[e]
  go_enter func136,ntmps136
  go_wp2_with (go_at_call 172;refine (cn _).mono ?_;rintro e w1 ⟨rfl,hb1⟩)
  go_ret2
  refine⟨((PT.refl w).alloc _).below hb1,_,p,rfl,?_,(h.alloc _).keep hb1,hts (by rw[hk];decide)⟩
  rw[RepE]
  exact⟨_,rfl⟩
 | txt =>
  have e:pE (pL g) d (t::ts)=.ok (.txt (innerL t.body)) ts:=by simp only[pE,hk]
  rw[e]
  go_enter func136,ntmps136
  go_wp2
  go_ret2
  refine⟨(PT.refl w).alloc _,_,p,rfl,?_,h.alloc _,hts (by rw[hk];decide)⟩
  rw[RepE]
  exact⟨_,bd,by rw[hbd,hk];rfl,rfl⟩
 | word =>
  have hb:bd.data.toList=t.body:=by rw[hbd,hk];rfl
  cases hr:reservedL t.body with
  | true =>
   have e:pE (pL g) d (t::ts)=.err 2 t.at_:=by simp[pE,hk,hr]
   rw[e]
   have cn:=fun w hc=>nameOf_no 5 t.at_ bd w aT hc (by rw[hb];simp[isName,hr])
   go_enter func136,ntmps136
   obtain⟨n0,n1,n2,n3⟩:=new_cells3 w (.int .i64 5) (.int .i64 ((t.at_:Nat):Int)) (.string bd) 173
   go_wp2_with (go_at_call 134;refine (cn _ ?_).mono ?_;(exact (h.alloc _).eT);rintro e w1 ⟨rfl,hb1⟩;have m1:=Below.cellv hb1 n1;have hl1:=cell_lt m1)
   go_ret2
   exact⟨(((PT.refl w).alloc _).below hb1).alloc _,_,rfl⟩
  | false =>
   have e:pE (pL g) d (t::ts)=.ok (.var t.body t.at_) ts:=by simp[pE,hk,hr]
   rw[e]
   have cn:=fun w=>nameOf_ok 5 t.at_ bd w (by rw[hb];simp[isName,hr])
   go_enter func136,ntmps136
   obtain⟨n0,n1,n2,n3⟩:=new_cells3 w (.int .i64 5) (.int .i64 ((t.at_:Nat):Int)) (.string bd) 173
   go_wp2_with (go_at_call 134;refine (cn _).mono ?_;rintro e w1 ⟨rfl,hb1⟩;have m1:=Below.cellv hb1 n1;have hl1:=cell_lt m1)
   go_ret2
   refine⟨(((PT.refl w).alloc _).below hb1).alloc _,_,p,rfl,?_,((h.alloc _).keep hb1).alloc _,hts (by rw[hk];decide)⟩
   rw[RepE]
   exact⟨bd,hb,rfl⟩
 | opn =>
  by_cases hd:d=16
  ·subst hd
   have e:pE (pL g) 16 (t::ts)=.err 3 t.at_:=by simp[pE,hk]
   rw[e]
   go_enter func136,ntmps136
   go_wp2_with (go_at_call 97;refine (enter_deep (h.alloc _) t.at_ bd).mono ?_;rintro e w1 ⟨rfl,hb1⟩)
   go_ret2
   exact⟨((PT.refl w).alloc _).below hb1,_,rfl⟩
  ·have e:pE (pL g) d (t::ts)=pF (pL g) (d+1) ts:=by simp[pE,hk,hd]
   rw[e]
   have hts':=hts (by rw[hk];decide)
   generalize hR:pF (pL g) (d+1) ts=R
   have HR:Hid (pF (pL g) (d+1) ts=R):=hR
   clear hR e
   go_enter func136,ntmps136
   obtain⟨n0,n1,n2,n3⟩:=new_cells3 w (.int .i64 1) (.int .i64 ((t.at_:Nat):Int)) (.string bd) 173
   have ne1:w.heap.size≠pb:=by omega
   have ne2:w.heap.size≠rb:=by omega
   go_wp2_with (go_at_call 97;refine (enter_ok (h.alloc _) t.at_ bd hd).mono ?_;rintro e w1 ⟨rfl,pt1,hz1⟩;have m1:=pt1.cell n1 ne1 ne2)
   refine (form_any t.at_ IH hz1 hts' hg).mono ?_
   rw[HR.out]
   rintro e w2 ⟨pt2,hr⟩
   have hs1:=(((PT.refl (pb:=pb) (rb:=rb) w).alloc (Obj.cells #[.int .i64 1,.int .i64 ((t.at_:Nat):Int),.string bd] 173)).trans pt1)
   have hs2:=hs1.size
   cases R with
   | err c a =>
    obtain⟨x,rfl⟩:=hr
    go_wp2
    go_ret2
    exact⟨hs1.trans pt2,_,rfl⟩
   | ok ex rest =>
    obtain⟨v,q,rfl,hrep,hz2,hq2⟩:=hr
    go_wp2
    go_ret2
    exact⟨hs1.trans pt2,_,q,rfl,hrep.weaken fun k hk=>by omega,hz2,hq2⟩
 | eof =>
  have e:pE (pL g) d (t::ts)=.err 2 t.at_:=by simp only[pE,hk]
  rw[e]
  go_enter func136,ntmps136
  go_wp2_with (go_at_call 97;refine (enter_no (h.alloc _) 0 t.at_ bd (by decide)).mono ?_;rintro e w1 ⟨rfl,hb1⟩)
  go_ret2
  exact⟨((PT.refl w).alloc _).below hb1,_,rfl⟩
 | cls =>
  have e:pE (pL g) d (t::ts)=.err 2 t.at_:=by simp only[pE,hk]
  rw[e]
  go_enter func136,ntmps136
  go_wp2_with (go_at_call 97;refine (enter_no (h.alloc _) 2 t.at_ bd (by decide)).mono ?_;rintro e w1 ⟨rfl,hb1⟩)
  go_ret2
  exact⟨((PT.refl w).alloc _).below hb1,_,rfl⟩
theorem Tryz.infoExpr:(prog.info? 64).map (fun i=>(i.zero,i.size,i.bytes))=some (some .nilIface,1,16):=by kernel_rfl
theorem take_run (p:UInt8→Bool):∀(l:List UInt8),l.take (runL p l)=l.takeWhile p
 | []=>rfl
 | a::l=>by
  cases h:p a
  ·simp[runL,h]
  ·rw[runL_cons_true p a l h]
   simp[h,take_run p l]
theorem mem_while (p:UInt8→Bool):∀(l:List UInt8) (c:UInt8),c∈l.takeWhile p→p c=true
 | [],c,h=>by cases h
 | a::l,c,h=>by
  cases ha:p a
  ·simp[ha] at h
  ·simp only[List.takeWhile_cons,ha,if_true,List.mem_cons] at h
   rcases h with rfl | h
   ·exact ha
   ·exact mem_while p l c h
theorem numL_ok {l:List UInt8}{n:Nat}(h:numL l=some n):NumOk (l.take n):=by
 have hr:=runL_le digit (unsignL l)
 unfold numL at h
 split at h
 ·cases h
 ·rename_i hh
  simp only[Option.some.injEq] at h
  subst h
  have key:unsignL (l.take (l.length-(unsignL l).length+runL digit (unsignL l)))=(unsignL l).take (runL digit (unsignL l)):=by
   cases hs:startsB 45 l with
   | true =>
    have hu:unsignL l=l.drop 1:=by simp[unsignL,hs]
    cases l with
    | nil=>simp[startsB] at hs
    | cons c r =>
     simp only[List.drop_succ_cons,List.drop_zero] at hu
     rw[hu]
     have e:(c::r).length-r.length+runL digit r=runL digit r+1:=by simp;omega
     rw[e,List.take_succ_cons]
     have hs2:startsB 45 (c::r.take (runL digit r))=true:=by simpa[startsB] using hs
     simp[unsignL,hs2]
   | false =>
    have hu:unsignL l=l:=by simp[unsignL,hs]
    rw[hu,Nat.sub_self,Nat.zero_add]
    have hs2:startsB 45 (l.take (runL digit l))=false:=by
     cases l with
     | nil=>rfl
     | cons c r =>
      cases hd:digit c
      ·simp[runL,hd,startsB]
      ·rw[runL_cons_true digit c r hd]
       simpa[startsB] using hs
    simp[unsignL,hs2]
  refine⟨fun c hc=>?_,?_,?_⟩
  ·rw[key,take_run] at hc
   exact mem_while digit _ c hc
  ·rw[key,List.length_take];omega
  ·rw[key,List.length_take];omega
theorem measureL_numX {l:List UInt8}(h:(measureL l).1=.num):NumOk (l.take (measureL l).2):=by
 cases l with
 | nil=>simp[measureL] at h
 | cons c r =>
  simp only[measureL] at h ⊢
  split at h
  ·cases h
  split at h
  ·cases h
  rename_i a1 a2
  simp only[a1,a2,if_false,Bool.false_eq_true]
  split at h
  ·exact absurd (kindOf_fst h (by decide)).1 (by decide)
  rename_i a3
  simp only[a3,if_false,Bool.false_eq_true]
  split at h
  ·rename_i a4
   simp only[a4,if_true]
   obtain⟨_,n,h1,h2⟩:=kindOf_fst h (by decide)
   rw[h2]
   exact numL_ok h1
  split at h
  ·exact absurd (kindOf_fst h (by decide)).1 (by decide)
  ·cases h
theorem IsToks.num {s:List UInt8}{p:Nat}{t:Tok}{ts:List Tok}(h:IsToks s p (t::ts))(hk:t.k=.num):NumOk t.body:=by
 have e:nextTok s p=t:=by cases h<;>rfl
 rw[←e] at hk ⊢
 exact measureL_numX hk
theorem pL_go {f d : Nat} {m : Int} {t : Tok} {ts : List Tok} (h0 : ¬ m = 0) (hc : m < 0 → t.k ≠ .cls) : pL (f + 1) d m (t :: ts) = match pE (pL f) d (t :: ts) with
      | .err c a => .err c a
      | .ok e r => consR e (pL f d (if m < 0 then m else m - 1) r) := by
  have : ¬ (m = 0 ∨ (m < 0 ∧ t.k = .cls)) := by
    rintro (g | ⟨g1, g2⟩)
    · exact h0 g
    · exact hc g1 g2
  simp only [pL, this, if_false]
  cases pE (pL f) d (t :: ts) <;> rfl
theorem exprs_step {F pb rb:Nat}{s:ByteArray}{aT aD:Addr}(IH:∀g,g<F→ExprsDo g pb rb s aT aD):ExprsDo F pb rb s aT aD:=by
 intro ts d p m w hF hm1 hm3 hP hts
 have hlen:=hts.len (by rw[len_data];exact hP.hp)
 rw[len_data] at hlen
 have hs2:=hP.hs
 have hlt:=hP.lt
 have h15:=hP.h1
 go_enter func101,ntmps101
 go_wp2
 go_loopg [6] ts.length (fun k v wr=>∃f es vs ts2 q2,k=ts2.length∧ts2.length≤f∧f≤F∧es.length+ts2.length≤ts.length∧(0≤m→(es.length:Int)≤m)∧wr.ownsRow w.heap.size 64 1 v vs.length vs∧RepEs wr (fun k=>w.heap.size≤k∧some k≠v.ownBlock) es vs∧PT pb rb w wr∧Pz wr pb rb s aT aD q2 (d+1)∧IsToks s.data.toList q2 ts2∧pL F (d+1) m ts=addE es (pL f (d+1) (if m<0 then m else m-es.length) ts2))
 case atStart =>
  refine⟨F,[],[],ts,p,rfl,hF,Nat.le_refl _,by simp,fun h=>by simpa using h,World.ownsRow_nil _ _ _ _,by rw[RepEs],PT.refl w,hP,hts,?_⟩
  have:(if m<0 then m else m-(([]:List Ex).length:Int))=m:=by split<;>simp
  rw[this]
  cases pL F (d+1) m ts<;>rfl
 case round =>
  obtain⟨f,es,vs,ts2,q2,rfl,hf1,hf2,hcount,hmle,hown,hrep,hptr,hzr,hq3,heq⟩:=hrel
  obtain⟨t2,ts3,rfl⟩:=hq3.ne
  have r1:=hzr.rdr
  have HE:Aside (pL F (d+1) m ts=addE es (pL f (d+1) (if m<0 then m else m-es.length) (t2::ts3))):=heq
  clear heq
  have hltr:=hzr.lt
  have hszr:=hptr.size
  have HV:Hid (vs.length=es.length):=hrep.length
  have qc:kcode K.cls=2:=rfl
  simp only[List.length_cons] at hcount hf1
  obtain⟨f,rfl⟩:∃f',f=f'+1:=⟨f-1,by omega⟩
  obtain⟨ad,cap,rfl⟩:=owns_slice hown
  by_cases hbad:t2.k=.bad
  ·have cn:=next_bad hzr hq3 hbad
   have hP':pL F (d+1) m ts=.err 2 t2.at_:=by rw[HE.out,pL_bad hbad];rfl
   rw[hP']
   go_wp2_with (go_at_call 71;refine cn.mono ?_;rintro e w3 ⟨rfl,hpt5⟩)
   go_ret2
   exact⟨(hptr.trans hpt5).alloc _,_,_,_,rfl⟩
  have cn:=next_good hzr hq3 hbad
  have hvl2:(vs.length:Int)=(es.length:Int):=by rw[HV.out]
  have tN:m<0→((vs.length:Int)==m)=false:=fun h=>by simp;omega
  have t0:m<0→m=-1:=fun h=>by omega
  have HV2:Hid ((vs.length:Int)=(es.length:Int)):=hvl2
  clear hvl2
  -- the bracket that closes
  have close_ok:t2.k=.cls→(m<0∨(es.length:Int)=m)→pL F (d+1) m ts=.ok es ts3:=fun hc hm=>by
   rw[HE.out]
   rcases hm with hm | hm
   ·simp[pL,hc,addE,hm]
   ·have:¬ m<0:=by omega
    simp[pL,hc,addE,this,hm]
  by_cases hfin:(0≤m∧(es.length:Int)=m)∨(m<0∧t2.k=.cls)
  ·have tA:((vs.length:Int)==m || (m == -1&&kcode t2.k==2))=true:=by
    rcases hfin with ⟨_,g⟩ | ⟨g,g2⟩
    ·simp[HV2.out,g]
    ·simp[t0 g,g2,qc]
   by_cases hcls:t2.k=.cls
   ·have hP':=close_ok hcls (by rcases hfin with ⟨_,g⟩ | ⟨g,_⟩;exact Or.inr g;exact Or.inl g)
    rw[hP']
    rw[hcls] at cn tA
    rw[qc] at tA
    have HF:Hid (0≤m→(vs.length:Int)=m):=fun h=>by rw[HV2.out];omega
    clear HE IH close_ok hP' hfin tN t0 hmle
    by_cases hv:(vs.length:Int)=m
    ·have hv2:((vs.length:Int)==m)=true:=by simpa using hv
     clear hv tA
     go_wp2_with (first
      |(go_at_call 71;refine cn.mono ?_;rintro e w3 ⟨bd3,rfl,hbd,hbz,hpt5,q5,hz5,hq5⟩)
      |(go_at_call 135;refine (leave_ok (hz5.alloc _) t2.at_ bd3).mono ?_;rintro e w4 ⟨rfl,hpt6,hz6⟩))
     go_ret2
     have own4:w4.ownsRow w.heap.size 64 1 _ vs.length vs:=owns_touch hown ((hpt5.alloc _).trans hpt6) (fun k hk=>by rintro (g | g)<;>omega)
     have rep4:RepEs w4 (w.heap.size≤·) es vs:=(hrep.keep (same_pt ((hpt5.alloc _).trans hpt6) (fun k hk=>by have:=hk.1;omega))).weaken fun k hk=>hk.1.1
     exact⟨((hptr.trans hpt5).alloc _).trans hpt6,_,vs,q5,rfl,RowAt.of_owns own4,rep4,HF.out,hz6,hq5 (by decide)⟩
    ·have hv2:((vs.length:Int)==m)=false:=by simpa using hv
     have hm:m=-1:=by
      rw[hv2] at tA
      simp at tA
      exact tA
     subst hm
     clear hv tA
     go_wp2_with (first
      |(go_at_call 71;refine cn.mono ?_;rintro e w3 ⟨bd3,rfl,hbd,hbz,hpt5,q5,hz5,hq5⟩)
      |(go_at_call 135;refine (leave_ok (hz5.alloc _) t2.at_ bd3).mono ?_;rintro e w4 ⟨rfl,hpt6,hz6⟩))
     go_ret2
     have own4:w4.ownsRow w.heap.size 64 1 _ vs.length vs:=owns_touch hown ((hpt5.alloc _).trans hpt6) (fun k hk=>by rintro (g | g)<;>omega)
     have rep4:RepEs w4 (w.heap.size≤·) es vs:=(hrep.keep (same_pt ((hpt5.alloc _).trans hpt6) (fun k hk=>by have:=hk.1;omega))).weaken fun k hk=>hk.1.1
     exact⟨((hptr.trans hpt5).alloc _).trans hpt6,_,vs,q5,rfl,RowAt.of_owns own4,rep4,HF.out,hz6,hq5 (by decide)⟩
   ·have hme:0≤m∧(es.length:Int)=m:=by
     rcases hfin with g | ⟨_,g⟩
     ·exact g
     ·exact absurd g hcls
    have hP':pL F (d+1) m ts=.err 2 t2.at_:=by
     rw[HE.out]
     have:¬ m<0:=by omega
     simp[pL,hcls,addE,this,hme.2]
    rw[hP']
    have hv2:((vs.length:Int)==m)=true:=by simp[HV2.out,hme.2]
    have hk2:¬ kcode t2.k=2:=by revert hcls;cases t2.k<;>simp[kcode]
    clear HE IH close_ok hP' hfin tN t0 hmle hme tA
    go_wp2_with (first
     |(go_at_call 71;refine cn.mono ?_;rintro e w3 ⟨bd3,rfl,hbd,hbz,hpt5,q5,hz5,hq5⟩)
     |(go_at_call 135;refine (leave_no (hz5.alloc _) (kcode t2.k) t2.at_ bd3 hk2).mono ?_;rintro e w4 ⟨rfl,hb6⟩))
    go_ret2
    exact⟨((hptr.trans hpt5).alloc _).below hb6,_,_,_,rfl⟩
  ·have hnz:¬ (if m<0 then m else m-(es.length:Int))=0:=by
    intro h0
    apply hfin
    split at h0
    ·omega
    ·exact Or.inl ⟨by omega,by omega⟩
   have hnc:(if m<0 then m else m-(es.length:Int))<0→t2.k≠.cls:=by
    intro h0 hc
    split at h0
    ·exact hfin (Or.inr ⟨by omega,hc⟩)
    ·have:=hmle (by omega)
     omega
   have hgo:=pL_go (f:=f) (d:=d+1) (ts:=ts3) hnz hnc
   have hM:∀n:Nat,n=es.length→(if (if m<0 then m else m-(es.length:Int))<0 then (if m<0 then m else m-(es.length:Int)) else (if m<0 then m else m-(es.length:Int))-1)=(if m<0 then m else m-((n+1:Nat):Int)):=by
    intro n hn
    subst hn
    by_cases hm:m<0
    ·simp[hm]
    ·have:=hmle (by omega)
     have h2:¬ (m-(es.length:Int)<0):=by omega
     simp[hm,h2]
     omega
   have HG:Aside (pL F (d+1) m ts=addE es (match pE (pL f) (d+1) (t2::ts3) with | .err c a=>.err c a | .ok e r=>consR e (pL f (d+1) (if m<0 then m else m-((es.length+1:Nat):Int)) r))):=by
    show _=_
    rw[HE.out,hgo,hM es.length rfl]
   have hv2:((vs.length:Int)==m)=false:=by
    simp only[beq_eq_false_iff_ne]
    intro e
    rw[HV2.out] at e
    exact hfin (Or.inl ⟨by omega,e⟩)
   have hkm:(m == -1&&kcode t2.k==2)=false:=by
    by_cases hm:m=-1
    ·have hc:t2.k≠.cls:=fun e=>hfin (Or.inr ⟨by omega,e⟩)
     have:¬ kcode t2.k=2:=by revert hc;cases t2.k<;>simp[kcode]
     simp[hm,this]
    ·simp[hm]
   have hnum:t2.k=.num→NumOk t2.body:=fun h=>hq3.num h
   have IHf:=IH f (by omega)
   clear HE IH close_ok hfin tN t0 hnz hnc hgo hM
   go_wp2_with fail
   refine cn.mono ?_
   rintro e w3 ⟨bd3,rfl,hbd,hbz,hpt5,q5,hz5,hq5⟩
   have ce:=expr_any IHf (hz5.alloc (Obj.cells #[.int .i64 (kcode t2.k),.int .i64 ((t2.at_:Nat):Int),.string bd3] 173)) hq5 hbad (by omega) hnum bd3 hbd
   clear cn
   by_cases hm:m=-1
   ·have hk2:(kcode t2.k==2)=false:=by simpa[hm] using hkm
    subst hm
    clear hkm
    go_wp2_with fail
    refine ce.mono ?_
    rintro e w4 ⟨pt6,hr⟩
    have pt7:PT pb rb w w4:=((hptr.trans hpt5).alloc _).trans pt6
    have hsz3:=hpt5.size
    cases hE:pE (pL f) (d+1) (t2::ts3) with
    | err c a =>
     rw[hE] at hr
     obtain⟨x,rfl⟩:=hr
     have HP:Hid (pL F (d+1) ((-1)) ts=.err c a):=show _=_ by rw[HG.out,hE];rfl
     clear HG hE ce IHf
     go_wp2
     go_ret2
     refine⟨pt7,?_⟩
     rw[HP.out]
     exact⟨_,_,_,rfl⟩
    | ok ex rest =>
     rw[hE] at hr
     obtain⟨v,q6,rfl,hrepv,hz6,hq6⟩:=hr
     obtain⟨tv,xv,rfl⟩:=hrepv.iface
     have hl:=pE_len (fun d m ts es r=>pL_len f d m ts es r) hE
     simp only[List.length_cons] at hl
     have own4:w4.ownsRow w.heap.size 64 1 (.slice ad vs.length cap) vs.length vs:=owns_touch hown ((hpt5.alloc _).trans pt6) (fun k hk=>by rintro (g | g)<;>omega)
     have hrowlt:∀k,(Value.slice ad vs.length cap).ownBlock=some k→w.heap.size≤k∧k<wr.heap.size:=fun k hk=>hown.lt k hk
     have rep4:RepEs w4 (fun k=>(w.heap.size≤k∧some k≠(Value.slice ad vs.length cap).ownBlock)∧k<wr.heap.size) es vs:=hrep.keep (same_pt ((hpt5.alloc _).trans pt6) (fun k hk=>by have:=hk.1;omega))
     have HG2:Aside (pL F (d+1) ((-1)) ts=addE (es++[ex]) (pL f (d+1) (if (-1)<0 then (-1) else (-1)-((es.length+1:Nat):Int)) rest)):=by
      show _=_
      rw[HG.out,hE]
      exact addE_cons _ _ _
     have hnx:∀k,w3.heap.size+1≤k→some k≠(Value.slice ad vs.length cap).ownBlock:=fun k hk e=>by have:=(hrowlt k e.symm).2;omega
     have hsa:(w3.alloc (Obj.cells #[.int .i64 (kcode t2.k),.int .i64 ((t2.at_:Nat):Int),.string bd3] 173)).heap.size=w3.heap.size+1:=by simp
     rw[hsa] at hrepv
     have hsz4:w3.heap.size+1≤w4.heap.size:=by have:=pt6.size;rw[hsa] at this;exact this
     have rep5:RepEs w4 (fun k=>w.heap.size≤k∧some k≠(Value.slice ad vs.length cap).ownBlock) (es++[ex]) (vs++[.iface tv xv]):=RepEs.snoc (hrepv.weaken fun k hk=>⟨by omega,hnx k hk⟩) (rep4.weaken fun k hk=>hk.1)
     clear HG hE hrep rep4 hrepv ce IHf
     go_wp2_with (at_builtin;obtain⟨i0,hi,hz0,hz1,hz2⟩:=info_parts Tryz.infoExpr;refine wpList_append_own_at _ rfl _ _ 245 rfl w.heap.size 64 i0 .nilIface 1 16 underlying245 hi hz0 hz1 hz2 rfl (by decide) _ _ _ rfl (own4.alloc _) ⟨w4.heap.size,0,none⟩ 1 1 [.iface tv xv] rfl rfl (cell_one_new _ _ _) (fun x hx=>by simp at hx;subst hx;rfl) (by have:=HV.out;unfold maxLen;omega) (by have:=HV.out;omega) (by simp;omega) ?_;intro v' w6 hown' hgrow hnil hob;clear hi hz0 hz1 hz2)
     go_roundg rest.length
     case measure=>simp;omega
     case rel =>
      have hsg:(w4.alloc (Obj.cells #[.iface tv xv] 64)).heap.size=w4.heap.size+1:=by simp
      have hlen1:(vs++[Value.iface tv xv]).length=vs.length+1:=by simp
      refine⟨f,es++[ex],vs++[.iface tv xv],rest,q6,rfl,by omega,by omega,by simp;omega,?_,by rw[hlen1];exact hown',?_,(pt7.alloc _).grown hgrow (fun k hk=>(hrowlt k hk).1),(hz6.alloc _).grown hgrow (fun k hk=>by have:=hrowlt k hk;omega),hq6,?_⟩
      ·intro h0
       have:=hmle h0
       have hv3:¬ (vs.length:Int)=(-1):=by simp
       rw[HV2.out] at hv3
       simp
       omega
      ·have keep6:=(((rep5.keep (w':=w4.alloc (Obj.cells #[.iface tv xv] 64)) fun k _ hlt=>Below.heap_alloc _ _ _ hlt)).keep (w':=w6) (same_grown hgrow (fun k hk=>hk.1.2)))
       refine keep6.weaken fun k hk=>⟨hk.1.1.1,?_⟩
       rcases hob with h | h
       ·rw[h];exact hk.1.1.2
       ·rw[h,hsg]
        intro e
        have:=hk.1.2
        simp only[Option.some.injEq] at e
        omega
      ·rw[HG2.out]
       simp
   ·have hm2:(m == -1)=false:=by simpa using hm
    clear hkm hm
    go_wp2_with fail
    refine ce.mono ?_
    rintro e w4 ⟨pt6,hr⟩
    have pt7:PT pb rb w w4:=((hptr.trans hpt5).alloc _).trans pt6
    have hsz3:=hpt5.size
    cases hE:pE (pL f) (d+1) (t2::ts3) with
    | err c a =>
     rw[hE] at hr
     obtain⟨x,rfl⟩:=hr
     have HP:Hid (pL F (d+1) (m) ts=.err c a):=show _=_ by rw[HG.out,hE];rfl
     clear HG hE ce IHf
     go_wp2
     go_ret2
     refine⟨pt7,?_⟩
     rw[HP.out]
     exact⟨_,_,_,rfl⟩
    | ok ex rest =>
     rw[hE] at hr
     obtain⟨v,q6,rfl,hrepv,hz6,hq6⟩:=hr
     obtain⟨tv,xv,rfl⟩:=hrepv.iface
     have hl:=pE_len (fun d m ts es r=>pL_len f d m ts es r) hE
     simp only[List.length_cons] at hl
     have own4:w4.ownsRow w.heap.size 64 1 (.slice ad vs.length cap) vs.length vs:=owns_touch hown ((hpt5.alloc _).trans pt6) (fun k hk=>by rintro (g | g)<;>omega)
     have hrowlt:∀k,(Value.slice ad vs.length cap).ownBlock=some k→w.heap.size≤k∧k<wr.heap.size:=fun k hk=>hown.lt k hk
     have rep4:RepEs w4 (fun k=>(w.heap.size≤k∧some k≠(Value.slice ad vs.length cap).ownBlock)∧k<wr.heap.size) es vs:=hrep.keep (same_pt ((hpt5.alloc _).trans pt6) (fun k hk=>by have:=hk.1;omega))
     have HG2:Aside (pL F (d+1) (m) ts=addE (es++[ex]) (pL f (d+1) (if m<0 then m else m-((es.length+1:Nat):Int)) rest)):=by
      show _=_
      rw[HG.out,hE]
      exact addE_cons _ _ _
     have hnx:∀k,w3.heap.size+1≤k→some k≠(Value.slice ad vs.length cap).ownBlock:=fun k hk e=>by have:=(hrowlt k e.symm).2;omega
     have hsa:(w3.alloc (Obj.cells #[.int .i64 (kcode t2.k),.int .i64 ((t2.at_:Nat):Int),.string bd3] 173)).heap.size=w3.heap.size+1:=by simp
     rw[hsa] at hrepv
     have hsz4:w3.heap.size+1≤w4.heap.size:=by have:=pt6.size;rw[hsa] at this;exact this
     have rep5:RepEs w4 (fun k=>w.heap.size≤k∧some k≠(Value.slice ad vs.length cap).ownBlock) (es++[ex]) (vs++[.iface tv xv]):=RepEs.snoc (hrepv.weaken fun k hk=>⟨by omega,hnx k hk⟩) (rep4.weaken fun k hk=>hk.1)
     clear HG hE hrep rep4 hrepv ce IHf
     go_wp2_with (at_builtin;obtain⟨i0,hi,hz0,hz1,hz2⟩:=info_parts Tryz.infoExpr;refine wpList_append_own_at _ rfl _ _ 245 rfl w.heap.size 64 i0 .nilIface 1 16 underlying245 hi hz0 hz1 hz2 rfl (by decide) _ _ _ rfl (own4.alloc _) ⟨w4.heap.size,0,none⟩ 1 1 [.iface tv xv] rfl rfl (cell_one_new _ _ _) (fun x hx=>by simp at hx;subst hx;rfl) (by have:=HV.out;unfold maxLen;omega) (by have:=HV.out;omega) (by simp;omega) ?_;intro v' w6 hown' hgrow hnil hob;clear hi hz0 hz1 hz2)
     go_roundg rest.length
     case measure=>simp;omega
     case rel =>
      have hsg:(w4.alloc (Obj.cells #[.iface tv xv] 64)).heap.size=w4.heap.size+1:=by simp
      have hlen1:(vs++[Value.iface tv xv]).length=vs.length+1:=by simp
      refine⟨f,es++[ex],vs++[.iface tv xv],rest,q6,rfl,by omega,by omega,by simp;omega,?_,by rw[hlen1];exact hown',?_,(pt7.alloc _).grown hgrow (fun k hk=>(hrowlt k hk).1),(hz6.alloc _).grown hgrow (fun k hk=>by have:=hrowlt k hk;omega),hq6,?_⟩
      ·intro h0
       have:=hmle h0
       have hv3:¬ (vs.length:Int)=m:=by simpa using hv2
       rw[HV2.out] at hv3
       simp
       omega
      ·have keep6:=(((rep5.keep (w':=w4.alloc (Obj.cells #[.iface tv xv] 64)) fun k _ hlt=>Below.heap_alloc _ _ _ hlt)).keep (w':=w6) (same_grown hgrow (fun k hk=>hk.1.2)))
       refine keep6.weaken fun k hk=>⟨hk.1.1.1,?_⟩
       rcases hob with h | h
       ·rw[h];exact hk.1.1.2
       ·rw[h,hsg]
        intro e
        have:=hk.1.2
        simp only[Option.some.injEq] at e
        omega
      ·rw[HG2.out]
       simp
theorem exprs_all (pb rb:Nat)(s:ByteArray)(aT aD:Addr)(F:Nat):ExprsDo F pb rb s aT aD:=by
 induction F using Nat.strongRecOn with
 | _ F ih=>exact exprs_step ih
structure Res4 (X:World)(b:Nat):Prop where
 c0:X.cell? ⟨b,0,none⟩=some (.string ⟨#[]⟩)
 c1:X.cell? ⟨b,1,none⟩=some (.int .i64 0)
 c2:X.cell? ⟨b,2,none⟩=some (.slice none 0 0)
 c3:X.cell? ⟨b,3,none⟩=some .nilIface
 f0:X.frozen? ⟨b,0,none⟩=false
 f1:X.frozen? ⟨b,1,none⟩=false
 f2:X.frozen? ⟨b,2,none⟩=false
 f3:X.frozen? ⟨b,3,none⟩=false
theorem Res4.new (w:World):Res4 (w.alloc (.cells #[.string ⟨#[]⟩,.int .i64 0,.slice none 0 0,.nilIface] 66)) w.heap.size:=by
 have h:(w.alloc (Obj.cells #[.string ⟨#[]⟩,.int .i64 0,.slice none 0 0,.nilIface] 66)).heap[w.heap.size]?=some (.cells #[.string ⟨#[]⟩,.int .i64 0,.slice none 0 0,.nilIface] 66):=heap_alloc_new _ _
 constructor
 all_goals first
  |(unfold World.cell?;rw[h];rfl)
  |(unfold World.frozen?;rw[h];rfl)
theorem Res4.pt {X Y:World}{b pb rb:Nat}(h:Res4 X b)(hp:PT pb rb X Y)(h1:b≠pb)(h2:b≠rb):Res4 Y b:=by
 obtain⟨c0,c1,c2,c3,f0,f1,f2,f3⟩:=h
 have hl:=cell_lt c0
 exact⟨hp.cell c0 h1 h2,hp.cell c1 h1 h2,hp.cell c2 h1 h2,hp.cell c3 h1 h2,by rw[hp.frz (p:=⟨b,0,none⟩) hl h1 h2];exact f0,by rw[hp.frz (p:=⟨b,1,none⟩) hl h1 h2];exact f1,by rw[hp.frz (p:=⟨b,2,none⟩) hl h1 h2];exact f2,by rw[hp.frz (p:=⟨b,3,none⟩) hl h1 h2];exact f3⟩
abbrev zeroFn:Value:=.agg #[.string ⟨#[]⟩,.int .i64 0,.slice none 0 0,.nilIface]
def funPost (r:Res Fn)(w:World)(pb rb:Nat)(s:ByteArray)(aT aD:Addr)(e:Ending)(w':World):Prop :=
 PT pb rb w w'∧match r with
 | .err c a=>e=.returned (.tuple #[zeroFn,wrongV a (errOf c aT aD)])
 | .ok fn rest=>∃(nb:ByteArray) (pv bv:Value) (q:Nat),nb.data.toList=fn.name∧e=.returned (.tuple #[.agg #[.string nb,.int .i64 ((fn.at_:Nat):Int),pv,bv],.nilIface])∧NamesAt w' w.heap.size pv fn.params∧RepE w' (w.heap.size≤·) fn.body bv∧Pz w' pb rb s aT aD q 0∧IsToks s.data.toList q rest
theorem function_first {w:World}{pb rb:Nat}{s:ByteArray}{aT aD:Addr}{p:Nat}(h:Pz w pb rb s aT aD p 0){t:Tok}(bd:ByteArray)(hk:t.k≠.opn):
  Calls prog 72 #[.pointer (some ⟨pb,0,none⟩),tokV (kcode t.k) t.at_ bd] w (funPost (.err 2 t.at_) w pb rb s aT aD):=by
 have hk1:¬ kcode t.k=1:=by revert hk;cases t.k<;>simp[kcode]
 have hlt:=h.lt
 have h4:=Res4.new (w.alloc (Obj.cells #[.int .i64 (kcode t.k),.int .i64 ((t.at_:Nat):Int),.string bd] 173))
 have hs1:(w.alloc (Obj.cells #[.int .i64 (kcode t.k),.int .i64 ((t.at_:Nat):Int),.string bd] 173)).heap.size=w.heap.size+1:=by simp
 rw[hs1] at h4
 go_enter func72,ntmps72
 go_wp2_with fail
 refine (enter_no ((h.alloc _).alloc _) (kcode t.k) t.at_ bd hk1).mono ?_
 rintro e w1 ⟨rfl,hb1⟩
 obtain⟨c0,c1,c2,c3,f0,f1,f2,f3⟩:=h4.pt (PT.of_below (pb:=pb) (rb:=rb) hb1) (by omega) (by omega)
 have pt1:=(((PT.refl (pb:=pb) (rb:=rb) w).alloc _).alloc _).below hb1
 clear h4 hb1
 go_wp2
 refine bodyPost_ret (v:=.tuple #[zeroFn,wrongV t.at_ aT]) (by simp[results,results72,go_sem,c0,c1,c2,c3]) rfl ⟨?_,rfl⟩
 exact (((pt1.set (by omega) _).set (by omega) _).set (by omega) _).set (by omega) _
theorem isFun_word {t:Tok}:isFunT t=true ↔ (t.k=.word∧t.body=[102,117,110]):=by simp[isFunT]
theorem more_of {s : List UInt8} {p : Nat} {t : Tok} {ts : List Tok} (h : IsToks s p (t :: ts)) (h1 : t.k ≠ .eof) (h2 : t.k ≠ .bad) : ∃ u us, ts = u :: us := by
  cases h with
  | last hl => rcases hl with g | g
               · exact absurd g h1
               · exact absurd g h2
  | more _ _ h3 => exact h3.ne
theorem set4 {pb rb:Nat}{w x:World}(h:PT pb rb w x){b:Nat}(hb:w.heap.size≤b)(u0 u1 u2 u3:Value):PT pb rb w ((((x.setCell ⟨b,0,none⟩ u0).setCell ⟨b,1,none⟩ u1).setCell ⟨b,2,none⟩ u2).setCell ⟨b,3,none⟩ u3) :=
 (((h.set hb _).set hb _).set hb _).set hb _
theorem Pz.drew {w:World}{pb rb:Nat}{s:ByteArray}{aT aD:Addr}{p d:Nat}(h:Pz w pb rb s aT aD p d):Pz w.drew pb rb s aT aD p d :=
 ⟨h.rdr,h.opn,h.free,⟨h.rd.text,h.rd.place,h.rd.free⟩,h.eT,h.eD,h.hs,h.hne,h.h1,h.h2,h.hp,h.hd⟩
theorem PT.drew {pb rb:Nat}{a w:World}(h:PT pb rb a w):PT pb rb a w.drew:=Touch.drew h
theorem touch4 (x:World)(b:Nat)(u0 u1 u2 u3:Value):Touch (·=b) x ((((x.setCell ⟨b,0,none⟩ u0).setCell ⟨b,1,none⟩ u1).setCell ⟨b,2,none⟩ u2).setCell ⟨b,3,none⟩ u3).drew :=
 (((((Touch.refl (·=b) x).setCell (p:=⟨b,0,none⟩) (Or.inl rfl) _).setCell (p:=⟨b,1,none⟩) (Or.inl rfl) _).setCell (p:=⟨b,2,none⟩) (Or.inl rfl) _).setCell (p:=⟨b,3,none⟩) (Or.inl rfl) _).drew
theorem function_opn {g:Nat}{w:World}{pb rb:Nat}{s:ByteArray}{aT aD:Addr}{p:Nat}(h:Pz w pb rb s aT aD p 0){t:Tok}{ts:List Tok}(hts:IsToks s.data.toList p ts)(bd:ByteArray)(hk:t.k=.opn)(hg:ts.length≤g):
  Calls prog 72 #[.pointer (some ⟨pb,0,none⟩),tokV (kcode t.k) t.at_ bd] w (funPost (pFun g (t::ts)) w pb rb s aT aD):=by
 have hlt:=h.lt
 have h15:=h.h1
 have h4:=Res4.new (w.alloc (Obj.cells #[.int .i64 1,.int .i64 ((t.at_:Nat):Int),.string bd] 173))
 have hs1:(w.alloc (Obj.cells #[.int .i64 1,.int .i64 ((t.at_:Nat):Int),.string bd] 173)).heap.size=w.heap.size+1:=by simp
 rw[hs1] at h4
 have q1:kcode t.k=1:=by rw[hk];rfl
 rw[q1]
 generalize hR:pFun g (t::ts)=R
 have HR:Hid (pFun g (t::ts)=R):=hR
 clear hR
 obtain⟨u,us,rfl⟩:=hts.ne
 go_enter func72,ntmps72
 go_wp2_with fail
 refine (enter_ok ((h.alloc _).alloc _) t.at_ bd (by decide)).mono ?_
 rintro e w1 ⟨rfl,p1,z1⟩
 have h4:=h4.pt p1 (by omega) (by omega)
 have pt1:=(((PT.refl (pb:=pb) (rb:=rb) w).alloc _).alloc _).trans p1
 clear p1
 go_wp2_with fail
 cases hu:isFunT u with
 | false =>
  refine (fun_no z1 hts (fun h=>by rw[isFun_word.2 h] at hu;cases hu)).mono ?_
  rintro e w2 ⟨rfl,p2⟩
  obtain⟨c0,c1,c2,c3,f0,f1,f2,f3⟩:=h4.pt p2 (by omega) (by omega)
  have pt2:=pt1.trans p2
  clear h4 p2
  go_wp2
  refine bodyPost_ret (v:=.tuple #[zeroFn,wrongV u.at_ aT]) (by simp[results,results72,go_sem,c0,c1,c2,c3]) rfl ⟨set4 pt2 (by omega) _ _ _ _,?_⟩
  have e:R=.err 2 u.at_:=by
   rw[←HR.out]
   rcases us with _ | ⟨n,_ | ⟨o,r⟩⟩<;>simp[pFun,hk,hu]
  rw[e]
  rfl
 | true =>
 obtain⟨hu1,hu2⟩:=isFun_word.1 hu
 refine (fun_ok z1 hts hu1 hu2).mono ?_
 rintro e w2 ⟨rfl,p2,q2,z2,i2⟩
 have h4:=h4.pt p2 (by omega) (by omega)
 have pt2:=pt1.trans p2
 clear p2 z1
 obtain⟨n,r,rfl⟩:=i2.ne
 go_wp2_with fail
 cases hn:isNameT n with
 | false =>
  refine (name_no z2 i2 hn).mono ?_
  rintro e w3 ⟨rfl,p3⟩
  obtain⟨c0,c1,c2,c3,f0,f1,f2,f3⟩:=h4.pt p3 (by omega) (by omega)
  have pt3:=pt2.trans p3
  have hl3:=cell_lt c0
  clear h4 p3
  go_wp2
  refine bodyPost_ret (v:=.tuple #[zeroFn,wrongV n.at_ aT]) (by simp[results,results72,go_sem,c0,c1,c2,c3,hl3]) rfl ⟨?_,?_⟩
  ·exact (set4 pt3 (by omega) _ _ _ _).alloc _
  have e:R=.err 2 n.at_:=by
   rw[←HR.out]
   rcases r with _ | ⟨o,r⟩<;>simp[pFun,hk,hu,hn]
  rw[e]
  rfl
 | true =>
 refine (name_ok z2 i2 hn).mono ?_
 rintro e w3 ⟨nb,rfl,hnb,hnz,p3,q3,z3,i3⟩
 have h4:=h4.pt p3 (by omega) (by omega)
 have pt3:=pt2.trans p3
 have hb4lt:w.heap.size+1<w3.heap.size:=cell_lt h4.c0
 obtain⟨n0,n1,n2⟩:=new_cells2 w3 (.string nb) (.int .i64 ((n.at_:Nat):Int)) 61
 have hsz3:=pt3.size
 have hx8:w3.heap.size≠pb:=by omega
 have hy8:w3.heap.size≠rb:=by omega
 clear p3 z2
 obtain⟨o,r3,rfl⟩:=i3.ne
 go_wp2_with fail
 by_cases ho:o.k=.opn
 case neg =>
  refine (parameters_other (z3.alloc _) i3 ho).mono ?_
  rintro e w4 ⟨p4,hr⟩
  have hr':e=.returned (.tuple #[.slice none 0 0,wrongV o.at_ aT]):=hr
  subst hr'
  obtain⟨c0,c1,c2,c3,f0,f1,f2,f3⟩:=(h4.pt ((PT.refl (pb:=pb) (rb:=rb) w3).alloc _) (by omega) (by omega)).pt p4 (by omega) (by omega)
  have pt4:=(pt3.alloc _).trans p4
  clear h4 p4 hr
  go_wp2
  refine bodyPost_ret (v:=.tuple #[zeroFn,wrongV o.at_ aT]) (by simp[results,results72,go_sem,c0,c1,c2,c3]) rfl ⟨set4 pt4 (by omega) _ _ _ _,?_⟩
  have e:R=.err 2 o.at_:=by
   rw[←HR.out]
   simp[pFun,hk,hu,hn,ho]
  rw[e]
  rfl
 have HR2:Hid (paramsR g n.body n.at_ (pP r3)=R):=by
  show _=_
  rw[←HR.out]
  simp[pFun,hk,hu,hn,ho]
 have hlen3:r3.length≤g:=by simp only[List.length_cons] at hg;omega
 clear HR
 refine (parameters_open (z3.alloc _) i3 (by decide) ho).mono ?_
 rintro e w4 ⟨p4,hr⟩
 have h4:=(h4.pt ((PT.refl (pb:=pb) (rb:=rb) w3).alloc _) (by omega) (by omega)).pt p4 (by omega) (by omega)
 have pt4:=(pt3.alloc _).trans p4
 have m0:w4.cell? ⟨w3.heap.size,0,none⟩=some (.string nb):=p4.cell n0 hx8 hy8
 have m1:w4.cell? ⟨w3.heap.size,1,none⟩=some (.int .i64 ((n.at_:Nat):Int)):=p4.cell n1 hx8 hy8
 have hsA:(w3.alloc (Obj.cells #[.string nb,.int .i64 ((n.at_:Nat):Int)] 61)).heap.size=w3.heap.size+1:=by simp
 have hsz4:w3.heap.size+1≤w4.heap.size:=by have:=p4.size;rw[hsA] at this;exact this
 clear n0 n1 n2 z3
 cases hP:pP r3 with
 | err c a =>
  rw[hP] at hr
  have hr':e=.returned (.tuple #[.slice none 0 0,wrongV a (errOf c aT aD)]):=hr
  subst hr'
  have HR3:Hid (R=.err c a):=by show _=_;rw[←HR2.out,hP];rfl
  obtain⟨c0,c1,c2,c3,f0,f1,f2,f3⟩:=h4
  clear hP HR2 hr p4
  go_wp2
  refine bodyPost_ret (v:=.tuple #[zeroFn,wrongV a (errOf c aT aD)]) (by simp[results,results72,go_sem,c0,c1,c2,c3]) rfl ⟨set4 pt4 (by omega) _ _ _ _,?_⟩
  rw[HR3.out]
 | ok ns r4 =>
 rw[hP] at hr
 obtain⟨pv,q4,rfl,hns,z4,i4⟩:=hr
 have hl4:=pP_len _ _ _ hP
 have HR3:Hid (bodyR n.body n.at_ ns (pL g 1 1 r4)=R):=by show _=_;rw[←HR2.out,hP];rfl
 rw[hsA] at hns
 obtain⟨bs,hbs,hown⟩:=hns
 obtain⟨pad,pcap,rfl⟩:=owns_slice hown
 clear hP HR2 p4
 go_wp2_with fail
 refine (exprs_all pb rb s aT aD g r4 0 q4 1 _ (by omega) (by decide) (by decide) z4 i4).mono ?_
 rintro e w5 ⟨p5,hr⟩
 have h4:=h4.pt p5 (by omega) (by omega)
 have pt5:=pt4.trans p5
 have k0:w5.cell? ⟨w3.heap.size,0,none⟩=some (.string nb):=p5.cell m0 hx8 hy8
 have k1:w5.cell? ⟨w3.heap.size,1,none⟩=some (.int .i64 ((n.at_:Nat):Int)):=p5.cell m1 hx8 hy8
 have own5:w5.ownsRow (w3.heap.size+1) 61 2 _ bs.length (nameCells bs):=owns_touch hown p5 (fun k hk=>by rintro (g | g)<;>omega)
 have hsz5:=p5.size
 clear m0 m1 hown z4
 cases hL:pL g 1 1 r4 with
 | err c a =>
  rw[show pL g (0+1) 1 r4=.err c a from hL] at hr
  obtain⟨ad,nn,kk,rfl⟩:=hr
  have HR4:Hid (R=.err c a):=by show _=_;rw[←HR3.out,hL];rfl
  obtain⟨c0,c1,c2,c3,f0,f1,f2,f3⟩:=h4
  clear hL HR3 p5
  go_wp2
  refine bodyPost_ret (v:=.tuple #[zeroFn,wrongV a (errOf c aT aD)]) (by simp[results,results72,go_sem,c0,c1,c2,c3]) rfl ⟨set4 pt5 (by omega) _ _ _ _,?_⟩
  rw[HR4.out]
 | ok es r5 =>
 rw[show pL g (0+1) 1 r4=.ok es r5 from hL] at hr
 obtain⟨v,vs,q5,rfl,hrow,hrep,hlen,z5,i5⟩:=hr
 have hv1:vs.length=1:=by have:=hlen (by decide);omega
 obtain⟨x,rfl⟩:=len_one hv1
 obtain⟨tx,xx,rfl⟩:=hrep.ifs x (by simp)
 obtain⟨gb,cap,rfl,hgb,hc1,hc2,hcell⟩:=hrow.cell (by simp)
 have hb0:w5.cell? ⟨gb,0,none⟩=some (.iface tx xx):=by rw[hcell 0 (by simp)];rfl
 obtain⟨ex,rfl,hrepx⟩:∃ex,es=[ex]∧RepE w5 (w4.heap.size≤·) ex (.iface tx xx):=by
  cases es with
  | nil=>rw[RepEs] at hrep;cases hrep
  | cons ex l =>
   rw[RepEs] at hrep
   obtain⟨v,r,h1,h2,h3⟩:=hrep
   cases h1
   cases l with
   | nil=>exact⟨ex,rfl,h2⟩
   | cons y l=>rw[RepEs] at h3;obtain⟨_,_,h,_⟩:=h3;cases h
 have HR4:Hid (R=.ok ⟨n.body,n.at_,ns,ex⟩ r5):=by show _=_;rw[←HR3.out,hL];rfl
 obtain⟨c0,c1,c2,c3,f0,f1,f2,f3⟩:=h4
 unfold maxLen at hc2
 have i1:(1:Int)≤(cap:Int):=by omega
 clear hL HR3 p5 hrow hrep hlen hcell hv1
 have nb4:w.heap.size+1≠w3.heap.size:=by omega
 have nb5:w.heap.size+1≠gb:=by omega
 go_wp2
 go_region_held3 (fun w'=>w'.cell? ⟨w3.heap.size,0,none⟩=some (.string nb)∧w'.cell? ⟨w3.heap.size,1,none⟩=some (.int .i64 ((n.at_:Nat):Int))∧w'.cell? ⟨gb,0,none⟩=some (.iface tx xx)) (go_keep) (fail)
 all_goals go_wp2
 have t4:=touch4 w5 (w.heap.size+1) (.string nb) (.int .i64 ((n.at_:Nat):Int)) (.slice pad bs.length pcap) (.iface tx xx)
 refine bodyPost_ret (v:=.tuple #[.agg #[.string nb,.int .i64 ((n.at_:Nat):Int),.slice pad bs.length pcap,.iface tx xx],.nilIface]) (by simp[results,results72,go_sem,c0,c1,c2,c3]) rfl ⟨(set4 pt5 (by omega) _ _ _ _).drew,?_⟩
 rw[HR4.out]
 refine⟨nb,_,_,q5,hnb,rfl,⟨bs,hbs,owns_mono (owns_touch own5 t4 (fun k hk=>by show ¬ k=w.heap.size+1;omega)) (by omega)⟩,?_,((((z5.set (by omega) (by omega) (by omega) _).set (by omega) (by omega) (by omega) _).set (by omega) (by omega) (by omega) _).set (by omega) (by omega) (by omega) _).drew,i5⟩
 exact ((hrepx.keep (w':=_) fun k hk hlt=>t4.block k hlt (by show ¬ k=w.heap.size+1;omega)).weaken fun k hk=>by have:=hk.1;omega)
theorem function_any {g:Nat}{w:World}{pb rb:Nat}{s:ByteArray}{aT aD:Addr}{p:Nat}(h:Pz w pb rb s aT aD p 0){t:Tok}{ts:List Tok}(hts:t.k≠.eof→IsToks s.data.toList p ts)(bd:ByteArray)(hg:ts.length≤g):
  Calls prog 72 #[.pointer (some ⟨pb,0,none⟩),tokV (kcode t.k) t.at_ bd] w (funPost (pFun g (t::ts)) w pb rb s aT aD):=by
 by_cases hk:t.k=.opn
 ·exact function_opn h (hts (by rw[hk];decide)) bd hk hg
 ·have e:pFun g (t::ts)=.err 2 t.at_:=by
   rcases ts with _ | ⟨u,_ | ⟨n,_ | ⟨o,r⟩⟩⟩<;>simp[pFun,hk]
  rw[e]
  exact function_first h bd hk
end Go.Proofs.YtifhgjpglicjbaaGreatDoor
