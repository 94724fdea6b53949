/-
  The reference: join.
-/
import Derived.Test.YtliapghpeoaonaaGreatDoorRvM
set_option maxHeartbeats 8000000
set_option maxRecDepth 8000
namespace Go.Proofs.YtliapghpeoaonaaGreatDoor
open Go.Proofs.Tryz
open Go.RowKit Go.Lib
attribute [local go_sem ↓] Go.wp_at_zero Go.wp_at_succ
theorem Zy0 (a b:PV)(hnt:∀x y,a=.txt x→b=.txt y→False):(∃x y,a=.lst x∧b=.lst y)∨(Zbe a=110∧Zbe b=110∧Za1 [106,111,105,110] [a,b]=none)∨(Zbe a≠Zbe b∧Za1 [106,111,105,110] [a,b]=none):=by
 cases a with
 | num x =>
  cases b with
  | num y=>exact Or.inr (Or.inl ⟨rfl,rfl,rfl⟩)
  | txt y=>exact Or.inr (Or.inr ⟨by simp[Zbe],rfl⟩)
  | lst y=>exact Or.inr (Or.inr ⟨by simp[Zbe],rfl⟩)
 | txt x =>
  cases b with
  | num y=>exact Or.inr (Or.inr ⟨by simp[Zbe],rfl⟩)
  | txt y=>exact (hnt x y rfl rfl).elim
  | lst y=>exact Or.inr (Or.inr ⟨by simp[Zbe],rfl⟩)
 | lst x =>
  cases b with
  | num y=>exact Or.inr (Or.inr ⟨by simp[Zbe],rfl⟩)
  | txt y=>exact Or.inr (Or.inr ⟨by simp[Zbe],rfl⟩)
  | lst y=>exact Or.inl ⟨x,y,rfl,rfl⟩
theorem Zdc {w:World}{p:Addr}{v:Value}(h:w.cell? p=some v):w.drew.cell? p=some v:=h
theorem Zux (D:Nat→Prop)(a b:PV)(sl:Value)(cs:List Value)(w:World)(hseg:Zar w D 46 4 sl 2 cs)(hvs:RVs w D [a,b] cs)(hwa:wtV a≤600)(hwb:wtV b≤600)(hD:∀g,w.heap.size≤g→D g)(hnt:∀x y,a=.txt x→b=.txt y→False):
  Calls prog 206 #[.string ⟨#[106,111,105,110]⟩,sl] w (Zfk D (Za1 [106,111,105,110] [a,b]) w):=by
 obtain⟨g,o,cap,rfl,hDg,hc1,hc2,hcx⟩:=hseg.cell (by omega)
 clear hcx
 obtain⟨sa,aad,ac,ads,a0,a1,a2,a3,aS,aG,aV,aR⟩:=Zb0 hseg rfl hvs 0 (by simp)
 obtain⟨sb,bad,bc,bds,b0,b1,b2,b3,bS,bG,bV,bR⟩:=Zb0 hseg rfl hvs 1 (by simp)
 simp only[List.getElem_cons_zero,List.getElem_cons_succ,Nat.zero_mul,Nat.add_zero,Nat.one_mul] at a0 a1 a2 a3 b0 b1 b2 b3 aS aG aV aR bS bG bV bR
 have lg:=Zae a0
 simp only at lg
 have n0:w.heap.size≠g:=by omega
 have n1:w.heap.size+1≠g:=by omega
 have n2:w.heap.size+2≠g:=by omega
 have n3:w.heap.size+3≠g:=by omega
 unfold maxLen at hc2
 have hla:(Za7 a).length≤600:=by
  cases a with
  | num z=>simp[Za7]
  | txt z=>simp[Za7]
  | lst z=>rw[wtV] at hwa;have:=Zdd z;simp only[Za7];omega
 have hlb:(Za7 b).length≤600:=by
  cases b with
  | num z=>simp[Za7]
  | txt z=>simp[Za7]
  | lst z=>rw[wtV] at hwb;have:=Zdd z;simp only[Za7];omega
 have hsa:sa.size≤600:=by
  have h1:sa.data.toList.length=sa.size:=by simp
  rw[aS] at h1
  cases a with
  | num z=>simp[Zxt] at h1;omega
  | txt z=>rw[wtV] at hwa;simp only[Zxt] at h1;omega
  | lst z=>simp[Zxt] at h1;omega
 have hsb:sb.size≤600:=by
  have h1:sb.data.toList.length=sb.size:=by simp
  rw[bS] at h1
  cases b with
  | num z=>simp[Zxt] at h1;omega
  | txt z=>rw[wtV] at hwb;simp only[Zxt] at h1;omega
  | lst z=>simp[Zxt] at h1;omega
 have hcat:¬ 9223372036854775807<sa.size+sb.size:=by omega
 have n22:w.heap.size+1+1≠g:=by omega
 have hao:=aV.one_cell
 have hbo:=bV.one_cell
 have os0:=OS.start w (.int .u8 (Zbe a:Int)) (.int .i64 (Zd1 a)) (.string sa) (.slice aad (Za7 a).length ac) (.int .u8 (Zbe a:Int)) (.int .i64 0) (.string (sa++sb))
 obtain⟨p0,p1,p2,p3,pf⟩:=Zak (w:=(w.alloc Zaz).alloc (Zce (.int .u8 (Zbe a:Int)) (.int .i64 (Zd1 a)) (.string sa) (.slice aad (Za7 a).length ac))) (b:=w.heap.size+1) (a0:=.int .u8 (Zbe a:Int)) (a1:=.int .i64 (Zd1 a)) (a2:=.string sa) (a3:=.slice aad (Za7 a).length ac) (by have:=heap_alloc_new (w.alloc Zaz) (Zce (.int .u8 (Zbe a:Int)) (.int .i64 (Zd1 a)) (.string sa) (.slice aad (Za7 a).length ac));simpa using this)
 go_enter func206,ntmps206
 go_upto_region 9 with fail
 have tst:(((w.alloc Zaz).alloc (Zce (.int .u8 (Zbe a:Int)) (.int .i64 (Zd1 a)) (.string sa) (.slice aad (Za7 a).length ac))).alloc Zaz).drew.cell? ⟨g,o+4+2,none⟩=some (.string sb):=Zdc (Zac (Zac (Zac b2)))
 have tst2:(((w.alloc Zaz).alloc (Zce (.int .u8 (Zbe a:Int)) (.int .i64 (Zd1 a)) (.string sa) (.slice aad (Za7 a).length ac))).alloc (Zce (.int .u8 (Zbe a:Int)) (.int .i64 0) (.string (sa++sb)) (.slice none 0 0))).drew.cell? ⟨g,o+4+2,none⟩=some (.string sb):=Zdc (Zac (Zac (Zac b2)))
 go_region_held3 (fun w'=>w'.cell? ⟨w.heap.size+1,0,none⟩=some (.int .u8 (Zbe a:Int))∧w'.cell? ⟨w.heap.size+1,2,none⟩=some (.string sa)∧w'.cell? ⟨g,o+4+2,none⟩=some (.string sb)) (first | go_keep | ((try dsimp only);refine⟨?_,?_,?_⟩;(first | go_keep | exact Zac p0 | exact Zdc (Zac p0));(first | go_keep | exact Zac p2 | exact Zdc (Zac p2));(first | exact Zac (Zac (Zac b2)) | exact Zdc (Zac (Zac (Zac b2))) | exact Zac (Zdc (Zac (Zac b2)))))) (fail)
 clear tst tst2 p0 p1 p2 p3 pf
 have os1:=os0.drew
 clear os0
 go_upto_region 11 with ((at_builtin;obtain⟨i0,hi,hz0,hz1,hz2⟩:=info_parts Tryz.infoVal;refine Zbs rfl _ _ 44 rfl (w.heap.size+3) 46 i0 _ 4 56 underlying44 hi hz0 hz1 hz2 rfl (by decide) _ _ _ rfl os1.own _ _ _ rfl (aG.below os1.hb) hao (by unfold maxLen;omega) (by omega) os1.lt ?_;intro v1 w1 own1 gr1 at1;clear hi hz0 hz1 hz2;simp only[Nat.zero_add,List.nil_append] at own1;obtain⟨ad1,cap1,hv1⟩:=Zaf own1;subst hv1;obtain⟨oc1,ob12,ob11⟩:=os1.step (Below.refl _ _) own1 gr1;obtain⟨y0,y1,y2,y3,yf⟩:=Zak ob12))
 go_cut [] (fun wx=>∃(oad:Option Addr) (ocap:Nat),OS w wx (.int .u8 (Zbe a:Int)) (.int .i64 (Zd1 a)) (.string sa) (.slice aad (Za7 a).length ac) (.int .u8 (Zbe a:Int)) (.int .i64 0) (.string (sa++sb)) (.slice oad ((Za7 a).length+(Za7 b).length) ocap) ((Za7 a).length+(Za7 b).length) (ads++bds))
 case first =>
  have d3:=Below.cellv oc1.hb b3
  obtain⟨x0,x1,x2,x3,xf⟩:=Zak oc1.b2
  go_region_law (go_loud (obtain⟨i0,hi,hz0,hz1,hz2⟩:=info_parts Tryz.infoVal;refine Zd4 (D:=D) ?_ (.tmp 57) (.tmp 61) 44 ?_ (w.heap.size+3) 46 i0 (.agg #[.int .u8 0,.int .i64 0,.string ⟨#[]⟩,.slice none 0 0]) 4 56 underlying44 hi hz0 hz1 hz2 rfl (by decide) (.slice ad1 (Za7 a).length cap1) (Za7 a).length ads ?_ ?_ (.slice bad (Za7 b).length bc) (Za7 b).length bds ?_ ?_ ?_ (by unfold maxLen;omega) (by omega) ?_ ?_;(rfl);(rfl);(rfl);(first | exact oc1.own | exact oc1.drew.own);(rfl);(first | exact bG.below oc1.hb | exact bG.below oc1.drew.hb);(exact hbo);(first | exact oc1.lt | (exact oc1.drew.lt));clear hi hz0 hz1 hz2;intro v' w5 own5 hg5 hat5;obtain⟨oad2,ocap2,rfl⟩:=Zaf own5;obtain⟨oc,ob2,ob1⟩:=oc1.step (by first | exact Below.refl _ _ | exact (Below.refl _ _).drew) own5 hg5;obtain⟨z0,z1,z2,z3,zf⟩:=Zak ob2))
  all_goals go_wp2_with fail
  all_goals go_meet
  all_goals first
   | exact⟨_,_,oc⟩
   | exact⟨_,_,oc.drew⟩
 case rest =>
  obtain⟨oad,ocap,os2⟩:=hcut
  have os3:=os2
  obtain⟨x0,x1,x2,x3,xf⟩:=Zak os2.b2
  obtain⟨r0,r1,r2,r3,rf⟩:=Zak os2.b1
  obtain⟨q0,q1,q2,q3,qf⟩:=Zak os2.b0
  have d0:=Below.cellv os2.hb b0
  have lt2:=os2.lt
  have ne1:w.heap.size≠w.heap.size+1+1:=by omega
  have ne2:w.heap.size≠w.heap.size+1:=by omega
  rcases Zy0 a b hnt with ⟨x,y,rfl,rfl⟩ | ⟨h1,h2,hn⟩ | ⟨h1,hn⟩
  ·have hsa0:sa=⟨#[]⟩:=Zkc (by rw[aS];rfl)
   have hsb0:sb=⟨#[]⟩:=Zkc (by rw[bS];rfl)
   have hcc:sa++sb=⟨#[]⟩:=by rw[hsa0,hsb0];rfl
   have hRV:RVs w D (x++y) (ads++bds):=bV.append aV
   have os4:OS w wc (.int .u8 108) (.int .i64 (Zd1 (.lst x))) (.string sa) (.slice aad x.length ac) (.int .u8 108) (.int .i64 0) (.string ⟨#[]⟩) (.slice oad (x++y).length ocap) (x++y).length (ads++bds):=by
    rw[List.length_append]
    have:=os3
    rw[hcc] at this
    exact this
   have fin:=fun x0 x1 x2 x3=>os4.done hD hRV x0 x1 x2 x3
   rw[List.length_append] at fin
   have FIN:Aside (∀x0 x1 x2 x3:Value,_):=fin
   have HS:Aside (Za1 [106,111,105,110] [.lst x,.lst y]=some (.lst (x++y))):=rfl
   have HC:Aside (sa++sb=⟨#[]⟩):=hcc
   have x0':wc.cell? ⟨w.heap.size+1+1,0,none⟩=some (.int .u8 108):=x0
   have x3':wc.cell? ⟨w.heap.size+1+1,3,none⟩=some (.slice oad (x.length+y.length) ocap):=x3
   have r0':wc.cell? ⟨w.heap.size+1,0,none⟩=some (.int .u8 108):=r0
   have d0':wc.cell? ⟨g,o+4,none⟩=some (.int .u8 108):=d0
   have hb2:=os2.hb
   clear hsa0 hsb0 hcc hRV os4 fin os3 os2 x0 x3 r0 d0 aG aV aR bG bV bR aS bS hvs hseg hwa hwb hao hbo a0 a1 a3 b0 b1 b3
   go_upto_region 12 with fail
   go_region_held3 (fun w'=>w'.cell? ⟨w.heap.size+1+1,0,none⟩=some (.int .u8 108)∧w'.cell? ⟨w.heap.size+1+1,1,none⟩=some (.int .i64 0)∧w'.cell? ⟨w.heap.size+1+1,2,none⟩=some (.string (sa++sb))∧w'.cell? ⟨w.heap.size+1+1,3,none⟩=some (.slice oad (x.length+y.length) ocap)∧w'.cell? ⟨w.heap.size+1,0,none⟩=some (.int .u8 108)∧w'.cell? ⟨g,o+4,none⟩=some (.int .u8 108)) (go_keep) (fail)
   all_goals go_wp2
   all_goals refine bodyPost_ret (v:=.tuple #[.agg #[.int .u8 108,.int .i64 0,.string (sa++sb),.slice oad (x.length+y.length) ocap],.bool true]) (by simp[results,results206,go_sem,q0,q1,q2,q3]) rfl ?_
   all_goals (rw[HC.out])
   all_goals first
    | exact Zd5 HS.out (FIN.out _ _ _ _).1 (FIN.out _ _ _ _).2
    | exact Zd5 HS.out (FIN.out _ _ _ _).1.drew ((FIN.out _ _ _ _).2.heap rfl)
  ·have HN:Aside (Za1 [106,111,105,110] [a,b]=none):=hn
   rw[h1] at x0 r0
   rw[h2] at d0
   have x0':wc.cell? ⟨w.heap.size+1+1,0,none⟩=some (.int .u8 110):=x0
   have r0':wc.cell? ⟨w.heap.size+1,0,none⟩=some (.int .u8 110):=r0
   have d0':wc.cell? ⟨g,o+4,none⟩=some (.int .u8 110):=d0
   have hb2:=os2.hb
   clear hn h1 h2 os3 os2 x0 r0 d0 aG aV aR bG bV bR aS bS hvs hseg hwa hwb hao hbo a0 a1 a3 b0 b1 b3
   generalize (Za7 a).length=la at *
   generalize (Za7 b).length=lb at *
   go_upto_region 12 with fail
   go_region_held3 (fun w'=>w'.cell? ⟨w.heap.size+1+1,0,none⟩=some (.int .u8 110)∧w'.cell? ⟨w.heap.size+1+1,1,none⟩=some (.int .i64 0)∧w'.cell? ⟨w.heap.size+1+1,2,none⟩=some (.string (sa++sb))∧w'.cell? ⟨w.heap.size+1+1,3,none⟩=some (.slice oad (la+lb) ocap)∧w'.cell? ⟨w.heap.size+1,0,none⟩=some (.int .u8 110)∧w'.cell? ⟨g,o+4,none⟩=some (.int .u8 110)) (go_keep) (fail)
   all_goals go_wp2
   exact bodyPost_ret (v:=.tuple #[.agg #[.int .u8 110,.int .i64 0,.string (sa++sb),.slice oad (la+lb) ocap],.bool false]) (by simp[results,results206,go_sem,q0,q1,q2,q3]) rfl (Zbm HN.out (by first | exact Zbi hb2 (Nat.le_refl _) (Nat.le_refl _) _ _ _ _ | exact (Zbi hb2 (Nat.le_refl _) (Nat.le_refl _) _ _ _ _).drew))
  ·have HN:Aside (Za1 [106,111,105,110] [a,b]=none):=hn
   have e1:(((Zbe a:Nat):Int)==((Zbe b:Nat):Int))=false:=by rw[beq_eq_false_iff_ne];intro e;exact h1 (Int.ofNat.inj e)
   have hb2:=os2.hb
   clear hn h1 os3 os2 aG aV aR bG bV bR aS bS hvs hseg hwa hwb hao hbo a0 a1 a3 b0 b1 b3
   generalize (Za7 a).length=la at *
   generalize (Za7 b).length=lb at *
   generalize ((Zbe a:Nat):Int)=ka at *
   generalize ((Zbe b:Nat):Int)=kb at *
   go_upto_region 12 with fail
   go_region
   all_goals go_wp2
   all_goals exact bodyPost_ret (v:=.tuple #[.agg #[.int .u8 ka,.int .i64 0,.string (sa++sb),.slice oad (la+lb) ocap],.bool false]) (by simp[results,results206,go_sem,q0,q1,q2,q3]) rfl (Zbm HN.out (by first | exact Zbi hb2 (Nat.le_refl _) (Nat.le_refl _) _ _ _ _ | exact (Zbi hb2 (Nat.le_refl _) (Nat.le_refl _) _ _ _ _).drew))
theorem Znl (D:Nat→Prop)(x y:List UInt8)(sl:Value)(cs:List Value)(w:World)(hseg:Zar w D 46 4 sl 2 cs)(hvs:RVs w D [.txt x,.txt y] cs)(hwa:wtV (.txt x)≤600)(hwb:wtV (.txt y)≤600):
  Calls prog 206 #[.string ⟨#[106,111,105,110]⟩,sl] w (Zfk D (some (.txt (x++y))) w):=by
 obtain⟨g,o,cap,rfl,hDg,hc1,hc2,hcx⟩:=hseg.cell (by omega)
 clear hcx
 obtain⟨sa,aad,ac,ads,a0,a1,a2,a3,aS,aG,aV,aR⟩:=Zb0 hseg rfl hvs 0 (by simp)
 obtain⟨sb,bad,bc,bds,b0,b1,b2,b3,bS,bG,bV,bR⟩:=Zb0 hseg rfl hvs 1 (by simp)
 simp only[List.getElem_cons_zero,List.getElem_cons_succ,Nat.zero_mul,Nat.add_zero,Nat.one_mul] at a0 a1 a2 a3 b0 b1 b2 b3 aS aG aV aR bS bG bV bR
 have lg:=Zae a0
 simp only at lg
 have n0:w.heap.size≠g:=by omega
 have n1:w.heap.size+1≠g:=by omega
 have n2:w.heap.size+2≠g:=by omega
 have n3:w.heap.size+3≠g:=by omega
 unfold maxLen at hc2
 simp only[Zbe,Zd1,Za7,Zxt,List.length_nil] at a0 a1 a3 b0 b1 b3 aS bS aR bR
 have ea:aad=none∧ac=0:=by
  rw[RV] at aR
  obtain⟨s',_,h⟩:=aR
  simp at h
  exact h.2
 have eb:bad=none∧bc=0:=by
  rw[RV] at bR
  obtain⟨s',_,h⟩:=bR
  simp at h
  exact h.2
 obtain⟨rfl,rfl⟩:=ea
 obtain⟨rfl,rfl⟩:=eb
 have hsa:sa.size≤600:=by
  have h1:sa.data.toList.length=sa.size:=by simp
  rw[aS] at h1
  rw[wtV] at hwa
  omega
 have hsb:sb.size≤600:=by
  have h1:sb.data.toList.length=sb.size:=by simp
  rw[bS] at h1
  rw[wtV] at hwb
  omega
 have hcat:¬ 9223372036854775807<sa.size+sb.size:=by omega
 have n22:w.heap.size+1+1≠g:=by omega
 have HAB:Aside ((sa++sb).data.toList=x++y):=by show _=_;simp[aS,bS]
 clear aS aG aV aR bS bG bV bR hvs hseg hDg hwa hwb
 obtain⟨i0,hi,hz0,hz1,hz2⟩:=info_parts Tryz.infoVal
 have HI:Aside (prog.info? 46=some i0):=hi
 clear hi hz0 hz1 hz2
 obtain⟨p0,p1,p2,p3,pf⟩:=Zak (w:=(w.alloc Zaz).alloc (Zce (.int .u8 116) (.int .i64 0) (.string sa) (.slice none 0 0))) (b:=w.heap.size+1) (a0:=.int .u8 116) (a1:=.int .i64 0) (a2:=.string sa) (a3:=.slice none 0 0) (by have:=heap_alloc_new (w.alloc Zaz) (Zce (.int .u8 116) (.int .i64 0) (.string sa) (.slice none 0 0));simpa using this)
 go_enter func206,ntmps206
 go_upto_region 9 with fail
 have tst:(((w.alloc Zaz).alloc (Zce (.int .u8 116) (.int .i64 0) (.string sa) (.slice none 0 0))).alloc Zaz).drew.cell? ⟨g,o+4+2,none⟩=some (.string sb):=Zdc (Zac (Zac (Zac b2)))
 have tst2:(((w.alloc Zaz).alloc (Zce (.int .u8 116) (.int .i64 0) (.string sa) (.slice none 0 0))).alloc (Zce (.int .u8 116) (.int .i64 0) (.string (sa++sb)) (.slice none 0 0))).drew.cell? ⟨g,o+4+2,none⟩=some (.string sb):=Zdc (Zac (Zac (Zac b2)))
 go_region_held3 (fun w'=>w'.cell? ⟨w.heap.size+1,0,none⟩=some (.int .u8 116)∧w'.cell? ⟨w.heap.size+1,2,none⟩=some (.string sa)∧w'.cell? ⟨g,o+4+2,none⟩=some (.string sb)) (go_keep) (fail)
 clear tst tst2
 go_upto_region 11 with ((at_builtin;refine Zjf rfl _ _ 44 rfl 46 i0 underlying44 HI.out none none 0 0 0 (by omega) rfl rfl ?_))
 go_cut [] (fun wx=>wx.heap=(((w.alloc Zaz).alloc (Zce (.int .u8 116) (.int .i64 0) (.string sa) (.slice none 0 0))).alloc (Zce (.int .u8 116) (.int .i64 0) (.string (sa++sb)) (.slice none 0 0))).heap∧Below w.heap.size w wx)
 case first =>
  have u3:(((w.alloc Zaz).alloc (Zce (.int .u8 116) (.int .i64 0) (.string sa) (.slice none 0 0))).alloc (Zce (.int .u8 116) (.int .i64 0) (.string (sa++sb)) (.slice none 0 0))).drew.cell? ⟨g,o+4+3,none⟩=some (.slice none 0 0):=Zdc (Zac (Zac (Zac b3)))
  have u4:(((w.alloc Zaz).alloc (Zce (.int .u8 116) (.int .i64 0) (.string sa) (.slice none 0 0))).alloc (Zce (.int .u8 116) (.int .i64 0) (.string (sa++sb)) (.slice none 0 0))).drew.drew.cell? ⟨g,o+4+3,none⟩=some (.slice none 0 0):=Zdc (Zdc (Zac (Zac (Zac b3))))
  go_region_law (go_loud (refine Zl9 ?_ (.tmp 57) (.tmp 61) 44 ?_ 46 i0 underlying44 HI.out none none 0 0 0 (by omega) ?_ ?_ ?_;(rfl);(rfl);(rfl);(rfl)))
  all_goals go_wp2_with fail
  all_goals go_meet
  all_goals first
   | exact⟨rfl,(below2 w _ _).alloc (by simp;omega) _⟩
   | exact⟨rfl,((below2 w _ _).alloc (by simp;omega) _).drew⟩
   | exact⟨rfl,((below2 w _ _).alloc (by simp;omega) _).drew.drew⟩
 case rest =>
  obtain⟨hh,hb⟩:=hcut
  have b2':wc.heap[w.heap.size+1+1]?=some (Zce (.int .u8 116) (.int .i64 0) (.string (sa++sb)) (.slice none 0 0)):=by
   rw[hh]
   have:=heap_alloc_new ((w.alloc Zaz).alloc (Zce (.int .u8 116) (.int .i64 0) (.string sa) (.slice none 0 0))) (Zce (.int .u8 116) (.int .i64 0) (.string (sa++sb)) (.slice none 0 0))
   simpa using this
  have b1':wc.heap[w.heap.size+1]?=some (Zce (.int .u8 116) (.int .i64 0) (.string sa) (.slice none 0 0)):=by
   rw[hh,Za0 _ _ _ (by simp)]
   have:=heap_alloc_new (w.alloc Zaz) (Zce (.int .u8 116) (.int .i64 0) (.string sa) (.slice none 0 0))
   simpa using this
  have b0':wc.heap[w.heap.size]?=some Zaz:=by
   rw[hh,Za0 _ _ _ (by simp;omega),Za0 _ _ _ (by simp)]
   exact heap_alloc_new _ _
  obtain⟨x0,x1,x2,x3,xf⟩:=Zak b2'
  obtain⟨r0,r1,r2,r3,rf⟩:=Zak b1'
  obtain⟨q0,q1,q2,q3,qf⟩:=Zak b0'
  have d0:=Below.cellv hb b0
  have ne1:w.heap.size≠w.heap.size+1+1:=by omega
  have ne2:w.heap.size≠w.heap.size+1:=by omega
  clear p0 p1 p2 p3 pf b0' b1' b2' hh
  go_upto_region 12 with fail
  go_region_held3 (fun w'=>w'.cell? ⟨w.heap.size+1+1,0,none⟩=some (.int .u8 116)∧w'.cell? ⟨w.heap.size+1+1,1,none⟩=some (.int .i64 0)∧w'.cell? ⟨w.heap.size+1+1,2,none⟩=some (.string (sa++sb))∧w'.cell? ⟨w.heap.size+1+1,3,none⟩=some (.slice none 0 0)∧w'.cell? ⟨w.heap.size+1,0,none⟩=some (.int .u8 116)∧w'.cell? ⟨g,o+4,none⟩=some (.int .u8 116)) (go_keep) (fail)
  all_goals go_wp2
  all_goals refine bodyPost_ret (v:=.tuple #[.agg #[.int .u8 116,.int .i64 0,.string (sa++sb),.slice none 0 0],.bool true]) (by simp[results,results206,go_sem,q0,q1,q2,q3]) rfl (Zd5 rfl (by first | exact Zbi hb (Nat.le_refl _) (Nat.le_refl _) _ _ _ _ | exact (Zbi hb (Nat.le_refl _) (Nat.le_refl _) _ _ _ _).drew) ?_)
  all_goals (rw[RV];exact⟨_,HAB.out,rfl⟩)
end Go.Proofs.YtliapghpeoaonaaGreatDoor
namespace Go.Proofs.YtliapghpeoaonaaGreatDoor
open Go.Proofs.Tryz
open Go.RowKit Go.Lib
def Zv4 (wd:List UInt8)(n:Nat):Prop:=(wd=[108,101,110]∧n=1)∨(wd=[115,101,116]∧n=3)∨(n=2∧(wd=[97,100,100]∨wd=[115,117,98]∨wd=[109,117,108]∨wd=[101,113]∨wd=[108,101,115,115]∨wd=[97,116]∨wd=[106,111,105,110]))
theorem Zeo {op:ByteArray}{l:List UInt8}(h:op.data.toList=l):op=⟨l.toArray⟩:=Zkc (by simpa using h)
theorem Zxy (D:Nat→Prop)(op:ByteArray)(vs:List PV)(sl:Value)(cs:List Value)(w:World)(hw:Zv4 op.data.toList vs.length)(hseg:Zar w D 46 4 sl vs.length cs)(hvs:RVs w D vs cs)(hf:∀v∈vs,wtV v≤600)(hD:∀g,w.heap.size≤g→D g):
  Calls prog 206 #[.string op,sl] w (Zfk D (Za1 op.data.toList vs) w):=by
 rcases hw with ⟨h,hn⟩ | ⟨h,hn⟩ | ⟨hn,hw⟩
 ·match vs,hn with
  | [a],_ =>
   rw[h,Zeo h]
   exact Zxx D a sl cs w hseg hvs (hf a (by simp))
 ·match vs,hn with
  | [a,b,c],_ =>
   rw[h,Zeo h]
   exact Zxv D a b c sl cs w hseg hvs (hf a (by simp)) hD
 ·match vs,hn with
  | [a,b],_ =>
   rcases hw with h | h | h | h | h | h | h
   ·rw[h,Zeo h]
    exact Zxz D a b sl cs w hseg hvs
   ·rw[h,Zeo h]
    exact Zxu D a b sl cs w hseg hvs
   ·rw[h,Zeo h]
    exact Zxw D a b sl cs w hseg hvs
   ·rw[h,Zeo h]
    exact Z0d D a b sl cs w hseg hvs (hf a (by simp))
   ·rw[h,Zeo h]
    exact Zuw D a b sl cs w hseg hvs
   ·rw[h,Zeo h]
    exact Z0e D a b sl cs w hseg hvs (hf a (by simp))
   ·rw[h,Zeo h]
    by_cases ht:∃x y,a=.txt x∧b=.txt y
    ·obtain⟨x,y,rfl,rfl⟩:=ht
     exact Znl D x y sl cs w hseg hvs (hf _ (by simp)) (hf _ (by simp))
    ·exact Zux D a b sl cs w hseg hvs (hf a (by simp)) (hf b (by simp)) hD fun x y h1 h2=>ht ⟨x,y,h1,h2⟩
end Go.Proofs.YtliapghpeoaonaaGreatDoor
