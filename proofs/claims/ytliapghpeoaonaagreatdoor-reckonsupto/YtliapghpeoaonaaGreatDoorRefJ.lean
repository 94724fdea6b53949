/-
  The reference: fun.
-/
import Derived.Test.YtliapghpeoaonaaGreatDoorRefI
import Derived.Deep.LoopGhost
import Derived.Deep.RegionHeld3
set_option maxHeartbeats 8000000
set_option maxRecDepth 8000
namespace Go.Proofs.YtliapghpeoaonaaGreatDoor
open Go.Proofs.Tryz
open Go.RowKit
attribute [local go_sem ↓] Go.wp_at_zero Go.wp_at_succ
attribute [local go_sem] Z2m
section
variable {w:World} {base rb tb cap:Nat} {l:List (Tok×ByteArray)} {fv pv:Value} {k d e a:Nat} {ps:List Zaw}
theorem fun_any {fad:Option Addr}{fcap a0 G:Nat}{fs:List Ze8}(h:Rp w base rb tb cap l (.slice fad fs.length fcap) pv k 0 0 a0 ps)(hwf:Zfr l)(hown:w.ownsRow base 208 5 (.slice fad fs.length fcap) fs.length (Zbt fs))(hfd:∀g,some g=(Value.slice fad fs.length fcap).ownBlock→some g≠pv.ownBlock∧g≠rb∧g≠tb)
  (hsz:ps.length+(l.length-k)≤3000) (hfl:fs.length≤3000) (IH:∀g,ExDo base rb tb cap l (.slice fad fs.length fcap) a0 g) (hG:(Zan l k).length≤G) :
  Calls prog 57 #[.pointer (some ⟨rb,0,none⟩)] w (Zrp (f0 G (Zan l k)) base rb tb cap l (.slice fad fs.length fcap) pv a0 k ps fs w):=by
 have hlt:=h.lt
 have hl:=h.z.hl
 have hne1:=Nat.ne_of_lt hlt.1
 have hk:=h.z.hk
 have r0:=h.alloc zFun
 obtain⟨vad,vcap,hpv⟩:=Zaf h.own
 subst hpv
 generalize hRES:f0 G (Zan l k)=RES at *
 have I0:Aside (Inv l a0 RES 0 (f0 G) k 0 0 a0):=Or.inr ⟨rfl,rfl,rfl,hRES.symm⟩
 go_enter func57,ntmps57
 go_wp2_with (first
  |(go_at_call 97;go_loud (refine (Zjx (d0:=1) hwf gs3.1.rp.z (by decide) I3.out.1 (fun r=>Zdy G s3.data.toList p3 (pP r)) (fun t r=>rfl)).mono ?_;rintro r w4 ⟨v4,k4,d4,e4,a4,rfl,ht4,z4,I4⟩;have gs4:=gs3.1.touch ht4 z4))
  |(go_at_call 98;go_loud (refine (Zth (d0:=1) hwf z2 I2.out.1 (fun nm at_=>fC G nm at_) (fun _ hk=>by rw[Zbk hk];rfl)).mono ?_;rintro r w3 ⟨c3,s3,p3,k3,d3,e3,a3,rfl,ht3,z3,I3⟩;have r3:=r2.touch ht3 z3;have gs3:=GS.start h ((ht1.trans ht2).trans ht3) r3 c3 s3 p3;obtain⟨m0,m1,m2,m3,m4⟩:=gs3.2.facts;have u0:=gs3.2.free 0;have u1:=gs3.2.free 1;obtain⟨j0,j1,j2⟩:=(Za9 w3 c3 s3 p3).facts;have sz3:=((ht1.trans ht2).trans ht3).size;simp at sz3;have ne3:w.heap.size≠w3.heap.size:=(by omega);have ne4:w3.heap.size≠w.heap.size:=(by omega)))
  |(go_at_call 97;go_loud (refine (Zq5 (d0:=1) hwf z1 I1.out.1 (fB G) (fun t r=>rfl)).mono ?_;rintro r w2 ⟨v2,k2,d2,e2,a2,rfl,ht2,z2,I2⟩;have r2:=r1.touch ht2 z2))
  |(go_at_call 97;go_loud (refine (Zjx (d0:=0) hwf r0.z (by decide) I0.out (fA G) (fun t r=>rfl)).mono ?_;rintro r w1 ⟨v1,k1,d1,e1,a1,rfl,ht1,z1,I1⟩;have r1:=r0.touch ht1 z1)))
 generalize hTB:w3.heap.size=TB at *
 have IL:Aside (∃gh,GLoop base rb tb cap l (.slice fad fs.length fcap) (.slice vad ps.length vcap) ps w w.heap.size TB s3 p3 a0 k G RES gh w4):=by
  rcases I4.out with ⟨⟨he,hr⟩ | ⟨he,hd4,ha4,hr⟩,hpr⟩
  ·exact⟨0,none,0,[],none,0,[],k4,d4,e4,a4,gs4,Or.inl ⟨he,rfl,hr⟩⟩
  ·exact⟨l.length-k4+1,none,0,[],none,0,[],k4,d4,e4,a4,gs4,Or.inr ⟨he,rfl,hd4,ha4,rfl,by simp;omega,by have q4:=hpr he;have q3:=I3.out.2 q4.1;have q2:=I2.out.2 q3.1;have q1:=I1.out.2 q2.1;omega,by rw[hr];simp[Zb5,addP_nil]⟩⟩
 clear gs4 I4 I3 I2 I1 I0 gs3 r3 r2 r1 r0 ht1 ht2 ht3 ht4 z1 z2 z3 z4 m0 m1 m2 m3 m4 u0 u1 j0 j1 j2 sz3 ne3 ne4
 obtain⟨GH,hGH⟩:=IL.out
 have HGH:Aside (GLoop base rb tb cap l (.slice fad fs.length fcap) (.slice vad ps.length vcap) ps w w.heap.size TB s3 p3 a0 k G RES GH w4):=hGH
 clear hGH IL
 go_loopg [] GH (fun gh wr=>GLoop base rb tb cap l (.slice fad fs.length fcap) (.slice vad ps.length vcap) ps w w.heap.size TB s3 p3 a0 k G RES gh wr)
 case atStart=>exact HGH.out
 case round =>
  obtain⟨aad,acp,qs,lad,lcp,ls,kz,d',e',a',gs,hst⟩:=hrel
  have hk':=gs.rp.z.hk
  obtain⟨c0,c1,c2,c3,c4,c5,c6⟩:=gs.rp.z.cells
  rcases hst.out with ⟨he,hgh,hR⟩ | ⟨he,hgh,hd2,ha0,hql,hls,hkk,hR⟩
  ·have gs9:=gs
   have HRE:Aside (RES=.err e' a'):=hR
   clear hR hst
   go_wp2_with (first
    |(go_at_call 97;go_loud (refine (Zb8 gs5.rp.z he 41 ⟨#[]⟩).mono ?_;rintro r w6 ⟨rfl,ht6,z6⟩;generalize Zaq (l[kz]'hk')=tv6;have gs6:=gs5.touch ht6 z6))
    |(go_at_call 97;go_loud (refine (Zb8 gs9.rp.z he 41 ⟨#[]⟩).mono ?_;rintro r w5 ⟨rfl,ht5,z5⟩;generalize Zaq (l[kz]'hk')=tv5;have gs5:=gs9.touch ht5 z5;obtain⟨x0,x1,x2,x3,x4,x5,x6⟩:=gs5.rp.z.cells)))
   have ownF:w6.ownsRow base 208 5 (.slice fad fs.length fcap) fs.length (Zbt fs):=Zay hown fun g hg=>gs6.ht.block g (hown.lt g hg).2 (hfd g hg.symm).2.1
   obtain⟨x0',x1',x2',x3',x4',x5',x6'⟩:=gs6.rp.z.cells
   have f5:=gs6.rp.z.free 5
   obtain⟨o0,o1,o2,o3,o4⟩:=gs6.fb.facts
   have T6:Zaa (fun g=>g=rb∨some g=(Value.slice vad ps.length vcap).ownBlock∨some g=(Value.slice fad fs.length fcap).ownBlock) w w6:=gs6.ht.mono fun g hg=>Or.inl hg
   have hb6:=gs6.rp.hb
   have ne6:rb≠w6.heap.size:=Nat.ne_of_lt gs6.rp.lt.1
   have ne7:w6.heap.size≠rb:=Ne.symm ne6
   have x5a:(w6.alloc (.cells #[.string s3,.int .i64 ((p3:Nat):Int),.slice aad qs.length acp,.slice lad ls.length lcp,.int .i64 0] 208)).drew.cell? ⟨rb,5,none⟩=some (.slice fad fs.length fcap):=Zac x5'
   have nrbF:some rb≠(Value.slice fad fs.length fcap).ownBlock:=fun e=>(hfd rb e).2.1 rfl
   have FN:Aside (∀(X:World) (v':Value) (w7:World) (o:Obj),(X=w6∨X=w6.drew)→w7.ownsRow base 208 5 v' (fs.length+1) (Zbt fs++[.string s3,.int .i64 ((p3:Nat):Int),.slice aad qs.length acp,.slice lad ls.length lcp,.int .i64 0])→(X.alloc o).grownBy w7 (Value.slice fad fs.length fcap).ownBlock→(v'.ownBlock=(Value.slice fad fs.length fcap).ownBlock∨v'.ownBlock=some (X.alloc o).heap.size)→Zrp RES base rb tb cap l (.slice fad fs.length fcap) (.slice vad ps.length vcap) a0 k ps fs w (.returned (.tuple #[])) (w7.setCell ⟨rb,5,none⟩ v')):=by
    intro X v' w7 o hX own7 hg7 hat7
    rcases hX with rfl | rfl
    ·exact Zj6 (f:=⟨s3,p3,.slice aad qs.length acp,.slice lad ls.length lcp,0⟩) T6 hlt.1 gs6.rp (Or.inl rfl) hfd (fun g hg=>(hown.lt g hg).2) own7 hg7 hat7 (Or.inl ⟨he,HRE.out⟩)
    ·exact Zj6 (f:=⟨s3,p3,.slice aad qs.length acp,.slice lad ls.length lcp,0⟩) T6.drew hlt.1 gs6.rp.drew (Or.inl rfl) hfd (fun g hg=>(hown.lt g hg).2) own7 hg7 hat7 (Or.inl ⟨he,HRE.out⟩)
   clear gs6 gs5 gs9 gs T6 ht5 ht6 z5 z6 x0 x1 x2 x3 x4 x5 x6 c0 c1 c2 c3 c4 c5 c6
   go_region_law (go_loud (obtain⟨i0,hi,hz0,hz1,hz2⟩:=info_parts Tryz.infoFun;refine Zhi ?_ (.tmp 63) (.tmp 65) 126 ?_ base 208 i0 (.agg #[.string ⟨#[]⟩,.int .i64 0,.slice none 0 0,.slice none 0 0,.int .i64 0]) 5 80 underlying126 hi hz0 hz1 hz2 rfl (by decide) (.slice fad fs.length fcap) fs.length (Zbt fs) ?_ ?_ ⟨w6.heap.size,0,none⟩ 1 1 [.string s3,.int .i64 ((p3:Nat):Int),.slice aad qs.length acp,.slice lad ls.length lcp,.int .i64 0] ?_ rfl ?_ ?_ (by unfold maxLen;omega) (by omega) ?_ ?_;(rfl);(rfl);(rfl);(first | exact ownF.alloc _ | exact (ownF.drew).alloc _ | exact (ownF.alloc _).drew);(rfl);(first | exact Zek w6 _ _ _ _ _ _ | exact Zek w6.drew _ _ _ _ _ _);(intro u hu;simp at hu;rcases hu with h | h | h | h | h<;>(subst h;rfl));(simp;omega);clear hi hz0 hz1 hz2;intro v' w7 own7 hg7 hat7;obtain⟨fad2,fcap2,rfl⟩:=Zaf own7;replace hg7:=undrew hg7;obtain⟨e7,f7⟩:=Zoc hg7 nrbF x5' f5))
   all_goals (first | (refine bodyPost_end (v:=.tuple #[]) (by simp[results,results57,go_sem]) rfl ?_) | (go_wp2;refine bodyPost_end (v:=.tuple #[]) (by simp[results,results57,go_sem]) rfl ?_))
   all_goals first
    | exact FN.out w6 _ _ _ (Or.inl rfl) own7 hg7 hat7
    | exact FN.out w6.drew _ _ _ (Or.inr rfl) own7 hg7 hat7
    | exact Zh9 (FN.out w6 _ _ _ (Or.inl rfl) own7 hg7 hat7)
    | exact Zh9 (FN.out w6.drew _ _ _ (Or.inr rfl) own7 hg7 hat7)
  ·subst he hd2
   by_cases hcls:(l[kz]'hk').1.k=.cls
   ·obtain⟨G,rfl⟩:∃G',G=G'+1+1:=⟨G-2,by have h1:=hwf.more kz hk' (by rw[hcls];decide) (by rw[hcls];decide);rw[Zbv] at hG;omega⟩
    have hn9:=hwf.more kz hk' (by rw[hcls];decide) (by rw[hcls];decide)
    have hkc9:Zba (l[kz]'hk').1.k=41:=by rw[hcls];rfl
    have hcv9:Zaq (l[kz]'hk')=.agg #[.int .u8 41,.string (l[kz]'hk').2,.int .i64 (((l[kz]'hk').1.at_:Nat):Int)]:=by rw[←hkc9]
    have cn9:=Zbf gs.rp.z
    rw[hcv9] at cn9
    have HRB:Aside (RES=Zr2 s3.data.toList p3 (Zb5 (qs.zip ls)) (Znh (G+1) 1 1 (pE (pL (G+1)) 1 (Zan l (kz+1))))):=by
     show _=_
     rw[hR,Zbk hk',pP,if_pos hcls,addP,Zdy,List.append_nil]
     exact Z3l (by rw[Zbv] at hG ⊢;omega) hn9 _ _ _
    have hG2:(Zan l (kz+1)).length≤G+1+2:=by rw[Zbv] at hG ⊢;omega
    have HQL:Aside (qs.length=ls.length):=hql
    have hbd:ps.length+(l.length-(kz+1))≤3000:=by omega
    subst ha0
    clear hql hR hst
    go_wp2_with (first
     |(go_at_call 97;go_loud (refine (Zq6 (d0:=0) hwf rp6.z I6.1.out (fun r=>.ok ⟨s3.data.toList,p3,Zb5 (qs.zip ls),ex⟩ r) (fun t r=>fD_cons _ _ _ _ _ t r)).mono ?_;rintro r w9 ⟨v9,k9,d9,e9,a9,rfl,ht9,z9,I9⟩))
     |(go_at_call 99;go_loud (refine (Zof (IH (G+1)) gs5.rp hbd hG2).mono ?_;rintro r w6 ⟨k2,d2,e2,a2,qad,qcp,qs2,rfl,ht6,rp6',hlen6,mv6,H6⟩;have nFp:¬ (w.heap.size=rb∨some w.heap.size=(Value.slice vad ps.length vcap).ownBlock):=(by rintro (g | g);(exact absurd g.symm hne1);(exact absurd (hlt.2.2 _ g.symm).2 (by omega)));have fb6:=gs5.fb.same (ht6.block w.heap.size (Zag gs5.fb.blk) nFp);obtain⟨o0,o1,o2,o3,o4⟩:=fb6.facts;have ou:=fb6.free 4;have I6:=ex_after HRB.out H6.out;obtain⟨ex,I6⟩:=I6;have rp6:=rp6'.other (B:=w.heap.size) (by omega) (by omega) (Zl0 mv6 (fun g hg=>(hlt.2.2 g hg).2) (Zag gs5.fb.blk)) 4 (.int .i64 ((ps.length:Nat):Int))))
     |(go_at_call 97;go_loud (refine (Zh2 gs8.rp.z hkc9 hn9).mono ?_;rintro r w5 ⟨rfl,ht5,z5⟩;generalize Zaq (l[kz]'hk')=tv5;have gs5:=gs8.touch ht5 z5;obtain⟨x0,x1,x2,x3,x4,x5,x6⟩:=gs5.rp.z.cells;have sz5:=gs5.ht.size))
     |(go_at_call 56;go_loud (refine cn9.mono ?_;rintro r w8 ⟨rfl,hb8⟩;have gs8:=gs.below hb8)))
    obtain⟨T9,rp9,fb9,ownF,hfd9,mv9,hrep9⟩:=zt_facts gs5 ht6 rp6' mv6 fb6 ht9 z9 hown hfd
    obtain⟨y0,y1,y2,y3,y4,y5,y6⟩:=rp9.z.cells
    have f5:=rp9.z.free 5
    obtain⟨b0,b1,b2,b3,b4⟩:=fb9.facts
    have hb9:=rp9.hb
    have ne6:rb≠w9.heap.size:=Nat.ne_of_lt rp9.lt.1
    have ne7:w9.heap.size≠rb:=Ne.symm ne6
    have x5a:(w9.alloc (.cells #[.string s3,.int .i64 ((p3:Nat):Int),.slice aad qs.length acp,.slice lad ls.length lcp,.int .i64 ((ps.length:Nat):Int)] 208)).drew.cell? ⟨rb,5,none⟩=some (.slice fad fs.length fcap):=Zac y5
    have nrbF:some rb≠(Value.slice fad fs.length fcap).ownBlock:=fun e=>(hfd rb e).2.1 rfl
    have HRS:(e9≠0∧RES=.err e9 a9)∨(e9=0∧d9=0∧a9=a'∧k<k9∧ps <+: qs2∧qs2.length+(l.length-k9)≤ps.length+(l.length-k)∧∃fn,RES=.ok fn (Zan l k9)∧Zxc w9 (fun g=>w.heap.size≤g∧some g≠(Value.slice qad qs2.length qcp).ownBlock) qs2 fn ⟨s3,p3,.slice aad qs.length acp,.slice lad ls.length lcp,ps.length⟩):=by
     rcases I9.out with ⟨⟨q1,q2⟩ | ⟨q1,q2,q3,q4⟩,q5⟩
     ·exact Or.inl ⟨q1,q2⟩
     ·obtain⟨q6,q7⟩:=q5 q1
      obtain⟨g1,g2,g3,g4⟩:=I6.2.out q6
      exact Or.inr ⟨q1,q2,q3,by omega,g1,by omega,_,q4,hrep9 ex g4 HQL.out⟩
    have FN:Aside (∀(X:World) (v':Value) (w7:World) (o:Obj),(X=w9∨X=w9.drew)→w7.ownsRow base 208 5 v' (fs.length+1) (Zbt fs++[.string s3,.int .i64 ((p3:Nat):Int),.slice aad qs.length acp,.slice lad ls.length lcp,.int .i64 ((ps.length:Nat):Int)])→(X.alloc o).grownBy w7 (Value.slice fad fs.length fcap).ownBlock→(v'.ownBlock=(Value.slice fad fs.length fcap).ownBlock∨v'.ownBlock=some (X.alloc o).heap.size)→Zrp RES base rb tb cap l (.slice fad fs.length fcap) (.slice vad ps.length vcap) a' k ps fs w (.returned (.tuple #[])) (w7.setCell ⟨rb,5,none⟩ v')):=by
     intro X v' w7 o hX own7 hg7 hat7
     rcases hX with rfl | rfl
     ·exact Zj6 (f:=⟨s3,p3,.slice aad qs.length acp,.slice lad ls.length lcp,ps.length⟩) T9 hlt.1 rp9 mv9 hfd9 (fun g hg=>(hown.lt g hg).2) own7 hg7 hat7 HRS
     ·refine Zj6 (X:=w9.drew) (f:=⟨s3,p3,.slice aad qs.length acp,.slice lad ls.length lcp,ps.length⟩) T9.drew hlt.1 rp9.drew mv9 hfd9 (fun g hg=>(hown.lt g hg).2) own7 hg7 hat7 ?_
      rcases HRS with q | ⟨q1,q2,q3,q4,q5,q6,fn,q7,q8⟩
      ·exact Or.inl q
      ·exact Or.inr ⟨q1,q2,q3,q4,q5,q6,fn,q7,Zxc.drew q8⟩
    clear HRS T9 rp9 fb9 mv9 hfd9 hrep9 gs5 gs8 gs ht5 ht6 ht9 z5 z9 rp6 rp6' mv6 fb6 I6 I9 x0 x1 x2 x3 x4 x5 x6 c0 c1 c2 c3 c4 c5 c6 o0 o1 o2 o3 o4 ou H6 cn9
    go_region_law (go_loud (obtain⟨i0,hi,hz0,hz1,hz2⟩:=info_parts Tryz.infoFun;refine Zhi ?_ (.tmp 63) (.tmp 65) 126 ?_ base 208 i0 (.agg #[.string ⟨#[]⟩,.int .i64 0,.slice none 0 0,.slice none 0 0,.int .i64 0]) 5 80 underlying126 hi hz0 hz1 hz2 rfl (by decide) (.slice fad fs.length fcap) fs.length (Zbt fs) ?_ ?_ ⟨w9.heap.size,0,none⟩ 1 1 [.string s3,.int .i64 ((p3:Nat):Int),.slice aad qs.length acp,.slice lad ls.length lcp,.int .i64 ((ps.length:Nat):Int)] ?_ rfl ?_ ?_ (by unfold maxLen;omega) (by omega) ?_ ?_;(rfl);(rfl);(rfl);(first | exact ownF.alloc _ | exact (ownF.drew).alloc _ | exact (ownF.alloc _).drew);(rfl);(first | exact Zek w9 _ _ _ _ _ _ | exact Zek w9.drew _ _ _ _ _ _);(intro u hu;simp at hu;rcases hu with h | h | h | h | h<;>(subst h;rfl));(simp;omega);clear hi hz0 hz1 hz2;intro v' w7 own7 hg7 hat7;obtain⟨fad2,fcap2,rfl⟩:=Zaf own7;replace hg7:=undrew hg7;obtain⟨e7,f7⟩:=Zoc hg7 nrbF y5 f5))
    all_goals (first | (refine bodyPost_end (v:=.tuple #[]) (by simp[results,results57,go_sem]) rfl ?_) | (go_wp2;refine bodyPost_end (v:=.tuple #[]) (by simp[results,results57,go_sem]) rfl ?_))
    all_goals first
     | exact FN.out w9 _ _ _ (Or.inl rfl) own7 hg7 hat7
     | exact FN.out w9.drew _ _ _ (Or.inr rfl) own7 hg7 hat7
     | exact Zh9 (FN.out w9 _ _ _ (Or.inl rfl) own7 hg7 hat7)
     | exact Zh9 (FN.out w9.drew _ _ _ (Or.inr rfl) own7 hg7 hat7)
   ·have NB:=fun (X:World) (hz:Rz X rb tb cap l (.slice fad fs.length fcap) (.slice vad ps.length vcap) kz 2 0 a')=>Zth (F:=fun r=>Zdy G s3.data.toList p3 (addP (Zb5 (qs.zip ls)) (pP r))) (RES:=RES) (a0:=a0) (d0:=2) hwf hz (Or.inr ⟨rfl,rfl,ha0,hR⟩) (fun nm at_ r=>Zdy G s3.data.toList p3 (addP (Zb5 (qs.zip ls)++[(nm,at_)]) (pP r))) (fun _ hk=>by
     simp only[Zbk hk,pP,hcls,if_false]
     cases Zbg (l[kz]'hk).1
     ·rfl
     ·simp only[if_true,Z3s])
    have hkc9:((Zba (l[kz]'hk').1.k) != 41)=true:=Zlb fun e=>hcls ((Zga _).1 e)
    have cn9:=Zbf gs.rp.z
    have hcv9:Zaq (l[kz]'hk')=.agg #[.int .u8 (Zba (l[kz]'hk').1.k),.string (l[kz]'hk').2,.int .i64 (((l[kz]'hk').1.at_:Nat):Int)]:=rfl
    rw[hcv9] at cn9
    have hg2:=gs.ht.size
    generalize Zba (l[kz]'hk').1.k=tk9 at *
    generalize (l[kz]'hk').2=ts9 at *
    generalize (l[kz]'hk').1.at_=ta9 at *
    have hLQ:qs.length≤3000:=by omega
    have HQL:Aside (qs.length=ls.length):=hql
    clear hql
    have HR:Aside (RES=Zdy G s3.data.toList p3 (addP (Zb5 (qs.zip ls)) (pP (Zan l kz)))):=hR
    clear hR hst hcls hcv9
    go_wp2_with (first
     |(go_at_call 56;go_loud (refine cn9.mono ?_;rintro r w8 ⟨rfl,hb8⟩;have gs8:=gs.below hb8))
     |(go_at_call 98;go_loud (refine (NB _ gs8.rp.z).mono ?_;rintro r w2 ⟨nc,ns,np,k2,d2,e2,a2,rfl,ht2,z2,I2⟩;have gs2:=gs8.touch ht2 z2;obtain⟨tc,tss,tp,tx2⟩:=gs2.tx;obtain⟨t0,t1,t2⟩:=tx2.facts;have t3:=tx2.free 0;have t4:=tx2.free 1;have t5:=tx2.free 2;have gst:=gs2.tok nc ns np;obtain⟨y0,y1,y2⟩:=gst.2.facts;obtain⟨x0,x1,x2,x3,x4⟩:=gst.1.fb.facts;have hFT:=gst.1.hFT;have hFT2:=Ne.symm gst.1.hFT;have szw:=gst.1.ht.size;simp at szw))
     |(at_builtin;go_loud (obtain⟨i0,hi,hz0,hz1,hz2⟩:=info_parts Tryz.infoIntR;refine wpList_append_own_at _ rfl _ _ 31 rfl w.heap.size 3 i0 _ 1 8 underlying31 hi hz0 hz1 hz2 rfl (by decide) _ _ _ rfl (gsp.1.lo.alloc _) ⟨w3b.heap.size,0,none⟩ 1 1 [.int .i64 ((np:Nat):Int)] rfl rfl (by have:=cell_one_new (w3b.setCell ⟨w.heap.size,2,none⟩ (.slice aad2 (qs.length+1) acp2)) (.int .i64 ((np:Nat):Int)) 3;simpa using this) (fun x hx=>by simp at hx;subst hx;rfl) (by unfold maxLen;omega) (by omega) (by simp;omega) ?_;intro v' w5 own5 hg5 hnil5 hat5;clear hi hz0 hz1 hz2;obtain⟨lad2,lcp2,rfl⟩:=Zaf own5;have gsl:=gsp.1.pla own5 hg5 hat5;obtain⟨o0,o1,o2,o3,o4⟩:=gsl.2.facts;have ou:=gsl.2.free 3))
     |(at_builtin;go_loud (obtain⟨i0,hi,hz0,hz1,hz2⟩:=info_parts Tryz.infoStrR;refine wpList_append_own_at _ rfl _ _ 30 rfl w.heap.size 9 i0 _ 1 16 underlying30 hi hz0 hz1 hz2 rfl (by decide) _ _ _ rfl (gst.1.po.alloc _) ⟨w2.heap.size,0,none⟩ 1 1 [.string ns] rfl rfl (by have:=cell_one_new (((w2.setCell ⟨TB,0,none⟩ (.int .u8 nc)).setCell ⟨TB,1,none⟩ (.string ns)).setCell ⟨TB,2,none⟩ (.int .i64 ((np:Nat):Int))) (.string ns) 9;simpa using this) (fun x hx=>by simp at hx;subst hx;rfl) (by unfold maxLen;omega) (by omega) (by simp;omega) ?_;intro v' w3b own3 hg3 hnil3 hat3;clear hi hz0 hz1 hz2;obtain⟨aad2,acp2,rfl⟩:=Zaf own3;have gsp:=gst.1.par own3 hg3 hat3;obtain⟨n0,n1,n2,n3,n4⟩:=gsp.2.1.facts;have nu:=gsp.2.1.free 2;have txp:=gsp.2.2 _ _ _ gst.2;obtain⟨b0,b1,b2⟩:=txp.1.facts;obtain⟨d0,d1,d2x⟩:=txp.2.facts;obtain⟨f0x,f1x,f2x,f3x,f4x⟩:=gsp.1.fb.facts;have sz3:=hg3.size;simp at sz3)))
    have NX:∃gh2,gh2<gk∧GLoop base rb tb cap l (.slice fad fs.length fcap) (.slice vad ps.length vcap) ps w w.heap.size TB s3 p3 a0 k G RES gh2 (w5.setCell ⟨w.heap.size,3,none⟩ (.slice lad2 (ls.length+1) lcp2)):=by
     rcases I2.out with ⟨⟨he,hr⟩ | ⟨he,hd,ha,hr⟩,hkq⟩
     ·exact⟨0,by omega,aad2,acp2,qs++[ns],lad2,lcp2,ls++[np],k2,d2,e2,a2,gsl.1,Or.inl ⟨he,rfl,hr⟩⟩
     ·refine⟨l.length-k2+1,by have:=hkq he;omega,aad2,acp2,qs++[ns],lad2,lcp2,ls++[np],k2,d2,e2,a2,gsl.1,Or.inr ⟨he,rfl,hd,ha,by simp[HQL.out],by have:=hkq he;simp;omega,by have:=hkq he;omega,?_⟩⟩
      rw[hr,List.zip_append HQL.out]
      simp[Zb5]
    obtain⟨gh2,hgl,hfl2⟩:=NX
    go_roundg gh2
    case measure=>exact hgl
    case rel=>exact hfl2
end
end Go.Proofs.YtliapghpeoaonaaGreatDoor
