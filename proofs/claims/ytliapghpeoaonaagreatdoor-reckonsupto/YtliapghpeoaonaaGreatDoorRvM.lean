/-
  The reference: eq, len, at.
-/
import Derived.Test.YtliapghpeoaonaaGreatDoorRvJ
import Derived.Deep.DeepCutAuto
set_option maxHeartbeats 8000000
set_option maxRecDepth 8000
namespace Go.Proofs.YtliapghpeoaonaaGreatDoor
open Go.Proofs.Tryz
open Go.RowKit Go.Lib
attribute [local go_sem ↓] Go.wp_at_zero Go.wp_at_succ
theorem res2 {w w2:World}{o1:Obj}(hb:Below ((w.alloc Zaz).alloc o1).heap.size ((w.alloc Zaz).alloc o1) w2):(w2.cell? ⟨w.heap.size,0,none⟩=some (.int .u8 0)∧w2.cell? ⟨w.heap.size,1,none⟩=some (.int .i64 0)∧w2.cell? ⟨w.heap.size,2,none⟩=some (.string ⟨#[]⟩)∧w2.cell? ⟨w.heap.size,3,none⟩=some (.slice none 0 0))∧(∀j,w2.frozen? ⟨w.heap.size,j,none⟩=false)∧w.heap.size<w2.heap.size:=by
 have h:w2.heap[w.heap.size]?=some Zaz:=by
  rw[hb.block _ (by simp;omega),Za0 _ _ _ (by simp)];exact heap_alloc_new _ _
 obtain⟨a,b,c,d,e⟩:=Zak h
 exact⟨⟨a,b,c,d⟩,e,Zag h⟩
theorem res_at {w w2:World}(h:w2.heap[w.heap.size]?=some Zaz):(w2.cell? ⟨w.heap.size,0,none⟩=some (.int .u8 0)∧w2.cell? ⟨w.heap.size,1,none⟩=some (.int .i64 0)∧w2.cell? ⟨w.heap.size,2,none⟩=some (.string ⟨#[]⟩)∧w2.cell? ⟨w.heap.size,3,none⟩=some (.slice none 0 0))∧(∀j,w2.frozen? ⟨w.heap.size,j,none⟩=false)∧w.heap.size<w2.heap.size:=by
 obtain⟨a,b,c,d,e⟩:=Zak h
 exact⟨⟨a,b,c,d⟩,e,Zag h⟩
theorem Z0d (D:Nat→Prop)(a b:PV)(sl:Value)(cs:List Value)(w:World)(hseg:Zar w D 46 4 sl 2 cs)(hvs:RVs w D [a,b] cs)(hwa:wtV a≤600):
  Calls prog 206 #[.string ⟨#[101,113]⟩,sl] w (Zfk D (Za1 [101,113] [a,b]) w):=by
 obtain⟨g,o,cap,rfl,hDg,hc1,hc2,hcx⟩:=hseg.cell (by omega)
 clear hcx
 obtain⟨sa,aad,ac,ads,a0,a1,a2,a3,aS,aG,aV,aR⟩:=Zb0 hseg rfl hvs 0 (by simp)
 obtain⟨sb,bad,bc,bds,b0,b1,b2,b3,bS,bG,bV,bR⟩:=Zb0 hseg rfl hvs 1 (by simp)
 simp only[List.getElem_cons_zero,List.getElem_cons_succ,Nat.zero_mul,Nat.add_zero,Nat.one_mul] at a0 a1 a2 a3 b0 b1 b2 b3 aS aG aV aR bS bG bV bR
 have lg:=Zae a0
 simp only at lg
 have n0:w.heap.size≠g:=by omega
 have n1:w.heap.size+1≠g:=by omega
 have n2:w.heap.size+2≠g:=by omega
 have n3:w.heap.size+3≠g:=by omega
 unfold maxLen at hc2
 have hres:Za1 [101,113] [a,b]=some (Z3m (Zcl a b)):=by simp[Za1,op2]
 rw[hres]
 have cw:∀X,X.heap=((w.alloc Zaz).alloc (Zce (.int .u8 (Zbe a:Int)) (.int .i64 (Zd1 a)) (.string sa) (.slice aad (Za7 a).length ac))).heap→Calls prog 130 #[.agg #[.int .u8 (Zbe a:Int),.int .i64 (Zd1 a),.string sa,.slice aad (Za7 a).length ac],.agg #[.int .u8 (Zbe b:Int),.int .i64 (Zd1 b),.string sb,.slice bad (Za7 b).length bc]] X fun e w'=>e=.returned (.bool (Zcl a b))∧Below X.heap.size X w':=fun X hX=>Zwf D 600 (by omega) a b _ _ X hwa ((aR.below (below2 w _ _)).heap hX) ((bR.below (below2 w _ _)).heap hX)
 clear aS aG aV aR bS bG bV bR hvs hseg hDg hres hwa
 generalize hQ:Zcl a b=Q at *
 clear hQ
 generalize (Zbe a:Int)=ka at *
 generalize Zd1 a=za at *
 generalize (Za7 a).length=la at *
 generalize (Zbe b:Int)=kb at *
 generalize Zd1 b=zb at *
 generalize (Za7 b).length=lb at *
 obtain⟨p0,p1,p2,p3,pf⟩:=Zak (w:=(w.alloc Zaz).alloc (Zce (.int .u8 ka) (.int .i64 za) (.string sa) (.slice aad la ac))) (b:=w.heap.size+1) (a0:=.int .u8 ka) (a1:=.int .i64 za) (a2:=.string sa) (a3:=.slice aad la ac) (by have:=heap_alloc_new (w.alloc Zaz) (Zce (.int .u8 ka) (.int .i64 za) (.string sa) (.slice aad la ac));simpa using this)
 have e0:=Zac (o:=Zce (.int .u8 ka) (.int .i64 za) (.string sa) (.slice aad la ac)) (Zac (o:=Zaz) b0)
 have e1:=Zac (o:=Zce (.int .u8 ka) (.int .i64 za) (.string sa) (.slice aad la ac)) (Zac (o:=Zaz) b1)
 have e2:=Zac (o:=Zce (.int .u8 ka) (.int .i64 za) (.string sa) (.slice aad la ac)) (Zac (o:=Zaz) b2)
 have e3:=Zac (o:=Zce (.int .u8 ka) (.int .i64 za) (.string sa) (.slice aad la ac)) (Zac (o:=Zaz) b3)
 have hz0:((w.alloc Zaz).alloc (Zce (.int .u8 ka) (.int .i64 za) (.string sa) (.slice aad la ac))).heap[w.heap.size]?=some Zaz:=by rw[Za0 _ _ _ (by simp)];exact heap_alloc_new _ _
 have PK:Aside (∀X,Below ((w.alloc Zaz).alloc (Zce (.int .u8 ka) (.int .i64 za) (.string sa) (.slice aad la ac))).heap.size ((w.alloc Zaz).alloc (Zce (.int .u8 ka) (.int .i64 za) (.string sa) (.slice aad la ac))) X→X.cell? ⟨w.heap.size+1,0,none⟩=some (.int .u8 ka)∧X.cell? ⟨w.heap.size+1,1,none⟩=some (.int .i64 za)∧X.cell? ⟨w.heap.size+1,2,none⟩=some (.string sa)∧X.cell? ⟨w.heap.size+1,3,none⟩=some (.slice aad la ac)∧X.cell? ⟨g,o+4,none⟩=some (.int .u8 kb)∧X.cell? ⟨g,o+4+1,none⟩=some (.int .i64 zb)∧X.cell? ⟨g,o+4+2,none⟩=some (.string sb)∧X.cell? ⟨g,o+4+3,none⟩=some (.slice bad lb bc)):=fun X hX=>⟨Below.cellv hX p0,Below.cellv hX p1,Below.cellv hX p2,Below.cellv hX p3,Below.cellv hX e0,Below.cellv hX e1,Below.cellv hX e2,Below.cellv hX e3⟩
 have HZ:Aside (∀X,Below ((w.alloc Zaz).alloc (Zce (.int .u8 ka) (.int .i64 za) (.string sa) (.slice aad la ac))).heap.size ((w.alloc Zaz).alloc (Zce (.int .u8 ka) (.int .i64 za) (.string sa) (.slice aad la ac))) X→X.heap[w.heap.size]?=some Zaz):=fun X hX=>by rw[hX.block _ (by simp;omega)];exact hz0
 clear p0 p1 p2 p3 pf e0 e1 e2 e3 hz0
 cases Q with
 | true =>
  go_enter func206,ntmps206
  go_wp2_with fail
  go_region_held3 (fun w'=>w'.cell? ⟨w.heap.size+1,0,none⟩=some (.int .u8 ka)∧w'.cell? ⟨w.heap.size+1,1,none⟩=some (.int .i64 za)∧w'.cell? ⟨w.heap.size+1,2,none⟩=some (.string sa)∧w'.cell? ⟨w.heap.size+1,3,none⟩=some (.slice aad la ac)∧w'.cell? ⟨g,o+4,none⟩=some (.int .u8 kb)∧w'.cell? ⟨g,o+4+1,none⟩=some (.int .i64 zb)∧w'.cell? ⟨g,o+4+2,none⟩=some (.string sb)∧w'.cell? ⟨g,o+4+3,none⟩=some (.slice bad lb bc)) (first | go_keep | exact PK.out _ (Below.drewN_left hb2)) ((go_at_call 130;refine (cw _ (by exact rfl)).mono ?_;rintro e w2 ⟨rfl,hb2⟩))
  go_wp2_with (go_at_call 246;refine (Zr3 true _).mono ?_;rintro e w3 ⟨rfl,hb3⟩;have hb23:=(Below.drewN_left hb2).trans (hb3.mono hb2.size);obtain⟨⟨q0,q1,q2,q3⟩,qf,ll⟩:=res_at (w:=w) (HZ.out _ hb23))
  exact bodyPost_ret (v:=.tuple #[.agg #[.int .u8 110,.int .i64 1,.string ⟨#[]⟩,.slice none 0 0],.bool true]) (by simp[results,results206,go_sem,q0,q1,q2,q3]) rfl (Zd5 (v:=.num 1) rfl (Zbi ((below2 w _ _).trans (hb23.mono (by simp;omega))) (Nat.le_refl _) (Nat.le_refl _) _ _ _ _) (by rw[RV]))
 | false =>
  go_enter func206,ntmps206
  go_wp2_with fail
  go_region_held3 (fun w'=>w'.cell? ⟨w.heap.size+1,0,none⟩=some (.int .u8 ka)∧w'.cell? ⟨w.heap.size+1,1,none⟩=some (.int .i64 za)∧w'.cell? ⟨w.heap.size+1,2,none⟩=some (.string sa)∧w'.cell? ⟨w.heap.size+1,3,none⟩=some (.slice aad la ac)∧w'.cell? ⟨g,o+4,none⟩=some (.int .u8 kb)∧w'.cell? ⟨g,o+4+1,none⟩=some (.int .i64 zb)∧w'.cell? ⟨g,o+4+2,none⟩=some (.string sb)∧w'.cell? ⟨g,o+4+3,none⟩=some (.slice bad lb bc)) (first | go_keep | exact PK.out _ (Below.drewN_left hb2)) ((go_at_call 130;refine (cw _ (by exact rfl)).mono ?_;rintro e w2 ⟨rfl,hb2⟩))
  go_wp2_with (go_at_call 246;refine (Zr3 false _).mono ?_;rintro e w3 ⟨rfl,hb3⟩;have hb23:=(Below.drewN_left hb2).trans (hb3.mono hb2.size);obtain⟨⟨q0,q1,q2,q3⟩,qf,ll⟩:=res_at (w:=w) (HZ.out _ hb23))
  exact bodyPost_ret (v:=.tuple #[.agg #[.int .u8 110,.int .i64 0,.string ⟨#[]⟩,.slice none 0 0],.bool true]) (by simp[results,results206,go_sem,q0,q1,q2,q3]) rfl (Zd5 (v:=.num 0) rfl (Zbi ((below2 w _ _).trans (hb23.mono (by simp;omega))) (Nat.le_refl _) (Nat.le_refl _) _ _ _ _) (by rw[RV]))
theorem Zvy {B:Nat}{a w:World}(h:Below B a w){n:Nat}:Below B a (w.drewN n):=h.trans ⟨rfl,rfl,rfl,Nat.le_refl _,fun _ _=>rfl⟩
theorem Zxx (D:Nat→Prop)(a:PV)(sl:Value)(cs:List Value)(w:World)(hseg:Zar w D 46 4 sl 1 cs)(hvs:RVs w D [a] cs)(hwa:wtV a≤600):
  Calls prog 206 #[.string ⟨#[108,101,110]⟩,sl] w (Zfk D (Za1 [108,101,110] [a]) w):=by
 obtain⟨g,o,cap,rfl,hDg,hc1,hc2,hcx⟩:=hseg.cell (by omega)
 clear hcx
 obtain⟨sa,aad,ac,ads,a0,a1,a2,a3,aS,aG,aV,aR⟩:=Zb0 hseg rfl hvs 0 (by simp)
 simp only[List.getElem_cons_zero,Nat.zero_mul,Nat.add_zero] at a0 a1 a2 a3 aS aG aV aR
 have lg:=Zae a0
 simp only at lg
 have n0:w.heap.size≠g:=by omega
 have n1:w.heap.size+1≠g:=by omega
 have n2:w.heap.size+2≠g:=by omega
 have n3:w.heap.size+3≠g:=by omega
 unfold maxLen at hc2
 have hsz:sa.size=(Zxt a).length:=by rw[←aS];simp
 have hres:Za1 [108,101,110] [a]=Zn8 a:=rfl
 rw[hres]
 cases a with
 | num x =>
  have hwr:IntKind.i64.wrap 0=0:=rfl
  simp only[Zbe,Zd1,Za7,Zxt,List.length_nil] at a0 a1 a3 hsz
  clear aS aG aV aR hvs hseg hDg hres hwa
  go_enter func206,ntmps206
  go_wp2_with fail
  go_region_held3 (fun w'=>w'.cell? ⟨w.heap.size+1,0,none⟩=some (.int .u8 110)∧w'.cell? ⟨w.heap.size+1,2,none⟩=some (.string sa)∧w'.cell? ⟨w.heap.size+1,3,none⟩=some (.slice aad 0 ac)) (go_keep) (fail)
  all_goals go_wp2
  exact bodyPost_ret (v:=.tuple #[.agg #[.int .u8 110,.int .i64 0,.string ⟨#[]⟩,.slice none 0 0],.bool false]) (by simp[results,results206,go_sem]) rfl (Zbm rfl (by first | exact below2 w _ _ | exact (below2 w _ _).drew | exact Zvy (below2 w _ _)))
 | txt x =>
  simp only[Zbe,Zd1,Za7,Zxt,List.length_nil] at a0 a1 a3 hsz
  rw[wtV] at hwa
  have hxl:x.length≤600:=by omega
  have hwr:IntKind.i64.wrap ((x.length:Nat):Int)=((x.length:Nat):Int):=by rw[IntKind.wrap_i64];omega
  clear aS aG aV aR hvs hseg hDg hres hwa
  go_enter func206,ntmps206
  go_wp2_with fail
  go_region_held3 (fun w'=>w'.cell? ⟨w.heap.size+1,0,none⟩=some (.int .u8 116)∧w'.cell? ⟨w.heap.size+1,2,none⟩=some (.string sa)∧w'.cell? ⟨w.heap.size+1,3,none⟩=some (.slice aad 0 ac)) (go_keep) (fail)
  all_goals go_wp2
  exact bodyPost_ret (v:=.tuple #[.agg #[.int .u8 110,.int .i64 ((x.length:Nat):Int),.string ⟨#[]⟩,.slice none 0 0],.bool true]) (by simp[results,results206,go_sem]) rfl (Zd5 (v:=.num ((x.length:Nat):Int)) rfl (by first | exact below2 w _ _ | exact (below2 w _ _).drew | exact Zvy (below2 w _ _)) (by rw[RV]))
 | lst x =>
  simp only[Zbe,Zd1,Za7,Zxt,List.length_nil] at a0 a1 a3 hsz
  rw[wtV] at hwa
  have hxl:x.length≤600:=by have:=Zdd x;omega
  have hwr:IntKind.i64.wrap ((x.length:Nat):Int)=((x.length:Nat):Int):=by rw[IntKind.wrap_i64];omega
  clear aS aG aV aR hvs hseg hDg hres hwa
  go_enter func206,ntmps206
  go_wp2_with fail
  go_region_held3 (fun w'=>w'.cell? ⟨w.heap.size+1,0,none⟩=some (.int .u8 108)∧w'.cell? ⟨w.heap.size+1,2,none⟩=some (.string sa)∧w'.cell? ⟨w.heap.size+1,3,none⟩=some (.slice aad x.length ac)) (go_keep) (fail)
  all_goals go_wp2
  exact bodyPost_ret (v:=.tuple #[.agg #[.int .u8 110,.int .i64 ((x.length:Nat):Int),.string ⟨#[]⟩,.slice none 0 0],.bool true]) (by simp[results,results206,go_sem]) rfl (Zd5 (v:=.num ((x.length:Nat):Int)) rfl (by first | exact below2 w _ _ | exact (below2 w _ _).drew | exact Zvy (below2 w _ _)) (by rw[RV]))
theorem Z0e (D:Nat→Prop)(a b:PV)(sl:Value)(cs:List Value)(w:World)(hseg:Zar w D 46 4 sl 2 cs)(hvs:RVs w D [a,b] cs)(hwa:wtV a≤600):
  Calls prog 206 #[.string ⟨#[97,116]⟩,sl] w (Zfk D (Za1 [97,116] [a,b]) w):=by
 obtain⟨g,o,cap,rfl,hDg,hc1,hc2,hcx⟩:=hseg.cell (by omega)
 clear hcx
 obtain⟨sa,aad,ac,ads,a0,a1,a2,a3,aS,aG,aV,aR⟩:=Zb0 hseg rfl hvs 0 (by simp)
 obtain⟨sb,bad,bc,bds,b0,b1,b2,b3,bS,bG,bV,bR⟩:=Zb0 hseg rfl hvs 1 (by simp)
 simp only[List.getElem_cons_zero,List.getElem_cons_succ,Nat.zero_mul,Nat.add_zero,Nat.one_mul] at a0 a1 a2 a3 b0 b1 b2 b3 aS aG aV aR bS bG bV bR
 have lg:=Zae a0
 simp only at lg
 have n0:w.heap.size≠g:=by omega
 have n1:w.heap.size+1≠g:=by omega
 have n2:w.heap.size+2≠g:=by omega
 have n3:w.heap.size+3≠g:=by omega
 unfold maxLen at hc2
 cases a with
 | num x =>
  have hres:Za1 [97,116] [.num x,b]=none:=by cases b<;>rfl
  simp only[Zbe,Zd1,Za7] at a0 a1 a3
  rw[hres]
  clear aS aG aV aR bS bG bV bR hvs hseg hDg hres
  go_enter func206,ntmps206
  go_wp2
  exact bodyPost_ret (v:=.tuple #[.agg #[.int .u8 0,.int .i64 0,.string ⟨#[]⟩,.slice none 0 0],.bool false]) (by simp[results,results206,go_sem]) rfl (Zbm rfl (below2 w _ _))
 | txt x =>
  have hres:Za1 [97,116] [.txt x,b]=none:=by cases b<;>rfl
  simp only[Zbe,Zd1,Za7] at a0 a1 a3
  rw[hres]
  clear aS aG aV aR bS bG bV bR hvs hseg hDg hres
  go_enter func206,ntmps206
  go_wp2
  exact bodyPost_ret (v:=.tuple #[.agg #[.int .u8 0,.int .i64 0,.string ⟨#[]⟩,.slice none 0 0],.bool false]) (by simp[results,results206,go_sem]) rfl (Zbm rfl (below2 w _ _))
 | lst l =>
  rw[wtV] at hwa
  have hll:l.length≤600:=by have:=Zdd l;omega
  simp only[Zbe,Zd1,Za7] at a0 a1 a3 aG aV
  cases b with
  | txt y =>
   simp only[Zbe,Zd1] at b0 b1
   have hres:Za1 [97,116] [.lst l,.txt y]=none:=rfl
   rw[hres]
   clear aS aG aV aR bS bG bV bR hvs hseg hDg hres
   go_enter func206,ntmps206
   go_wp2
   exact bodyPost_ret (v:=.tuple #[.agg #[.int .u8 0,.int .i64 0,.string ⟨#[]⟩,.slice none 0 0],.bool false]) (by simp[results,results206,go_sem]) rfl (Zbm rfl (below2 w _ _))
  | lst y =>
   simp only[Zbe,Zd1] at b0 b1
   have hres:Za1 [97,116] [.lst l,.lst y]=none:=rfl
   rw[hres]
   clear aS aG aV aR bS bG bV bR hvs hseg hDg hres
   go_enter func206,ntmps206
   go_wp2
   exact bodyPost_ret (v:=.tuple #[.agg #[.int .u8 0,.int .i64 0,.string ⟨#[]⟩,.slice none 0 0],.bool false]) (by simp[results,results206,go_sem]) rfl (Zbm rfl (below2 w _ _))
  | num i =>
   simp only[Zbe,Zd1] at b0 b1
   by_cases hi0:i<0
   ·have hres:Za1 [97,116] [.lst l,.num i]=none:=by simp[Za1,op2,atV];omega
    rw[hres]
    clear aS aG aV aR bS bG bV bR hvs hseg hDg hres
    go_enter func206,ntmps206
    go_wp2
    exact bodyPost_ret (v:=.tuple #[.agg #[.int .u8 0,.int .i64 0,.string ⟨#[]⟩,.slice none 0 0],.bool false]) (by simp[results,results206,go_sem]) rfl (Zbm rfl (below2 w _ _))
   ·by_cases hil:(l.length:Int)≤i
    ·have hres:Za1 [97,116] [.lst l,.num i]=none:=by simp[Za1,op2,atV];omega
     rw[hres]
     clear aS aG aV aR bS bG bV bR hvs hseg hDg hres
     go_enter func206,ntmps206
     go_wp2
     exact bodyPost_ret (v:=.tuple #[.agg #[.int .u8 0,.int .i64 0,.string ⟨#[]⟩,.slice none 0 0],.bool false]) (by simp[results,results206,go_sem]) rfl (Zbm rfl (below2 w _ _))
    ·obtain⟨j,rfl⟩:∃j:Nat,i=(j:Int):=⟨i.toNat,by omega⟩
     have hj:j<l.length:=by omega
     have hres:Za1 [97,116] [.lst l,.num (j:Int)]=some l[j]:=by simp[Za1,op2,atV,hj]
     rw[hres]
     obtain⟨g2,o2,cap2,hsv,hDg2,hd1,hd2,hcx⟩:=aG.cell (by omega)
     clear hcx
     simp only[Value.slice.injEq] at hsv
     obtain⟨rfl,_,rfl⟩:=hsv
     obtain⟨sx,xad,xc,xds,x0,x1,x2,x3,xS,xG,xV,xR⟩:=Zb0 aG rfl aV j hj
     have lx:=Zae x0
     simp only at lx
     have m0:w.heap.size≠g2:=by omega
     have m1:w.heap.size+1≠g2:=by omega
     have hR:Aside (RV w D l[j] (.agg #[.int .u8 (Zbe l[j]:Int),.int .i64 (Zd1 l[j]),.string sx,.slice xad (Za7 l[j]).length xc])):=xR
     clear aS aG aV aR bS bG bV bR hvs hseg hDg hres xS xG xV xR hDg2
     unfold maxLen at hd2
     generalize (Zbe l[j]:Int)=kx at *
     generalize Zd1 l[j]=zx at *
     generalize (Za7 l[j]).length=lx2 at *
     go_enter func206,ntmps206
     go_wp2
     exact bodyPost_ret (v:=.tuple #[.agg #[.int .u8 kx,.int .i64 zx,.string sx,.slice xad lx2 xc],.bool true]) (by simp[results,results206,go_sem]) rfl (Zd5 rfl (below2 w _ _) (hR.out.below (below2 w _ _)))
theorem Zar.pre {w:World}{D:Nat→Prop}{e:TypeId}{size g o n cap:Nat}{xs:List Value}(h:Zar w D e size (.slice (some ⟨g,o,none⟩) n cap) n xs)(m:Nat)(hm:m≤n):Zar w D e size (.slice (some ⟨g,o,none⟩) m cap) m (xs.take (m*size)):=by
 have hmul:m*size≤n*size:=Nat.mul_le_mul_right _ hm
 rcases Nat.eq_zero_or_pos m with h0 | h0
 ·subst h0
  exact⟨by simp,Or.inl ⟨⟨_,_,rfl⟩,rfl⟩⟩
 ·rcases h.2 with ⟨_,hz⟩ | ⟨g',o',cap',cur,hv,hg,hh,hc,hmx,hz,ht⟩
  ·omega
  ·cases hv
   refine⟨by rw[List.length_take,h.1];omega,Or.inr ⟨g,o,cap,cur,rfl,hg,hh,by omega,hmx,hz,?_⟩⟩
   rw[←ht,List.take_take,Nat.min_eq_left hmul]
theorem Zar.suf {w:World}{D:Nat→Prop}{e:TypeId}{size g o n cap:Nat}{xs:List Value}(h:Zar w D e size (.slice (some ⟨g,o,none⟩) n cap) n xs)(i:Nat)(hi:i≤n):Zar w D e size (.slice (some ⟨g,o+i*size,none⟩) (n-i) (cap-i)) (n-i) (xs.drop (i*size)):=by
 rcases Nat.eq_zero_or_pos (n-i) with h0 | h0
 ·have hmul:n*size≤i*size:=Nat.mul_le_mul_right _ (by omega)
  refine⟨by simp[h.1,Nat.sub_mul],Or.inl ⟨⟨_,_,by rw[h0]⟩,h0⟩⟩
 ·have:=h.sub i (n-i) (by omega) h0
  rw[List.take_of_length_le (by simp[h.1,Nat.sub_mul])] at this
  exact this
structure OS (w W:World)(a0 a1 a2 a3 k z s sl:Value)(n:Nat)(cs:List Value):Prop where
 hb:Below w.heap.size w W
 b0:W.heap[w.heap.size]?=some Zaz
 b1:W.heap[w.heap.size+1]?=some (Zce a0 a1 a2 a3)
 b2:W.heap[w.heap.size+1+1]?=some (Zce k z s sl)
 own:W.ownsRow (w.heap.size+3) 46 4 sl n cs
section
variable {w W X w5:World} {a0 a1 a2 a3 k z s sl sl':Value} {n m:Nat} {cs ds:List Value}
theorem OS.lt (h:OS w W a0 a1 a2 a3 k z s sl n cs):w.heap.size+1+1<W.heap.size:=Zag h.b2
theorem OS.drew (h:OS w W a0 a1 a2 a3 k z s sl n cs):OS w W.drew a0 a1 a2 a3 k z s sl n cs:=⟨h.hb.drew,h.b0,h.b1,h.b2,h.own.drew⟩
theorem OS.step (h:OS w W a0 a1 a2 a3 k z s sl n cs)(hX:Below W.heap.size W X)(own5:w5.ownsRow (w.heap.size+3) 46 4 sl' m ds)(hg:X.grownBy w5 sl.ownBlock):
  OS w (w5.setCell ⟨w.heap.size+1+1,3,none⟩ sl') a0 a1 a2 a3 k z s sl' m ds∧w5.heap[w.heap.size+1+1]?=some (Zce k z s sl)∧w5.heap[w.heap.size+1]?=some (Zce a0 a1 a2 a3):=by
 have lt:=h.lt
 have szX:=hX.size
 have sz5:=hg.size
 have lta:∀g,sl.ownBlock=some g→w.heap.size+3≤g∧g<W.heap.size:=fun g e=>h.own.lt g e
 have lta':∀g,sl'.ownBlock=some g→w.heap.size+3≤g:=fun g e=>(own5.lt g e).1
 have b5:∀g,g<W.heap.size→some g≠sl.ownBlock→w5.heap[g]?=W.heap[g]?:=fun g h1 h2=>by
  rw[hg.block g (by omega) h2,hX.block g h1]
 have hS:∀g,g≠w.heap.size+1+1→(w5.setCell ⟨w.heap.size+1+1,3,none⟩ sl').heap[g]?=w5.heap[g]?:=fun g hne=>Below.heap_setCell w5 ⟨w.heap.size+1+1,3,none⟩ _ g hne
 have nn:∀g,g<w.heap.size+3→some g≠sl.ownBlock:=fun g h1 e=>by have:=(lta g e.symm).1;omega
 have v2:w5.heap[w.heap.size+1+1]?=some (Zce k z s sl):=by rw[b5 _ lt (nn _ (by omega))];exact h.b2
 have v1:w5.heap[w.heap.size+1]?=some (Zce a0 a1 a2 a3):=by rw[b5 _ (by omega) (nn _ (by omega))];exact h.b1
 refine⟨⟨?_,?_,?_,?_,?_⟩,v2,v1⟩
 ·refine Below.setCell (p:=⟨w.heap.size+1+1,3,none⟩) ?_ (by show w.heap.size≤w.heap.size+1+1;omega) _
  refine⟨?_,?_,?_,?_,?_⟩
  ·rw[hg.os];exact hX.os.trans h.hb.os
  ·rw[hg.tape];exact hX.tape.trans h.hb.tape
  ·rw[hg.output];exact hX.output.trans h.hb.output
  ·have:=h.hb.size;omega
  ·intro g h1
   rw[b5 g (by omega) (nn g (by omega))]
   exact h.hb.block g h1
 ·rw[hS _ (by omega),b5 _ (by omega) (nn _ (by omega))];exact h.b0
 ·rw[hS _ (by omega)];exact v1
 ·rw[Zau v2];simp
 ·exact Zay own5 fun g h1=>hS g (by have:=lta' g h1;omega)
theorem OS.done {D:Nat→Prop}{l:List PV}{ad:Option Addr}{cap:Nat}(h:OS w W a0 a1 a2 a3 (.int .u8 108) (.int .i64 0) (.string ⟨#[]⟩) (.slice ad l.length cap) l.length cs)(hD:∀g,w.heap.size≤g→D g)(hv:RVs w D l cs)(x0 x1 x2 x3:Value):
  Below w.heap.size w ((((W.setCell ⟨w.heap.size,0,none⟩ x0).setCell ⟨w.heap.size,1,none⟩ x1).setCell ⟨w.heap.size,2,none⟩ x2).setCell ⟨w.heap.size,3,none⟩ x3) ∧
  RV ((((W.setCell ⟨w.heap.size,0,none⟩ x0).setCell ⟨w.heap.size,1,none⟩ x1).setCell ⟨w.heap.size,2,none⟩ x2).setCell ⟨w.heap.size,3,none⟩ x3) D (.lst l) (.agg #[.int .u8 108,.int .i64 0,.string ⟨#[]⟩,.slice ad l.length cap]):=by
 have hb:=Zbi h.hb (Nat.le_refl _) (Nat.le_refl w.heap.size) x0 x1 x2 x3
 refine⟨hb,?_⟩
 rw[RV]
 refine⟨_,cs,rfl,?_,hv.below hb⟩
 refine ((Zar.of_row (Zao.of_owns h.own)).keep fun k hk _=>Zej _ _ _ _ _ _ k (by have:w.heap.size+3≤k:=hk;omega)).weaken fun k hk=>hD k ?_
 have:w.heap.size+3≤k:=hk.1
 omega
theorem OS.start (w:World)(a0 a1 a2 a3 k z s:Value):OS w (((w.alloc Zaz).alloc (Zce a0 a1 a2 a3)).alloc (Zce k z s (.slice none 0 0))) a0 a1 a2 a3 k z s (.slice none 0 0) 0 []:=by
 refine⟨(below2 w _ _).alloc (by simp;omega) _,?_,?_,?_,⟨rfl,Or.inl ⟨rfl,rfl⟩⟩⟩
 ·rw[Za0 _ _ _ (by simp;omega),Za0 _ _ _ (by simp)];exact heap_alloc_new _ _
 ·rw[Za0 _ _ _ (by simp)]
  have:=heap_alloc_new (w.alloc Zaz) (Zce a0 a1 a2 a3)
  simpa using this
 ·have:=heap_alloc_new ((w.alloc Zaz).alloc (Zce a0 a1 a2 a3)) (Zce k z s (.slice none 0 0))
  simpa using this
end
theorem Z0g (l:List PV)(j:Nat)(hj:j<l.length)(c:PV):l.set j c=l.take j++[c]++l.drop (j+1):=by
 rw[List.set_eq_take_append_cons_drop,if_pos hj]
 simp
theorem Z0i (w:World)(x1 x2 x3 x4:Value):Zar (w.alloc (.cells #[x1,x2,x3,x4] 46)) (fun _=>True) 46 4 (.slice (some ⟨w.heap.size,0,none⟩) 1 1) 1 [x1,x2,x3,x4] :=
 ⟨rfl,Or.inr ⟨w.heap.size,0,1,_,rfl,trivial,heap_alloc_new _ _,by omega,by unfold maxLen;omega,by simp,by simp⟩⟩
theorem Zqq (D:Nat→Prop)(l:List PV)(j:Nat)(hj:j<l.length)(c:PV)(sl:Value)(cs:List Value)(w:World)(hseg:Zar w D 46 4 sl 3 cs)(hvs:RVs w D [.lst l,.num (j:Int),c] cs)(hll:l.length≤600)(hD:∀g,w.heap.size≤g→D g):
  Calls prog 206 #[.string ⟨#[115,101,116]⟩,sl] w (Zfk D (some (.lst (l.set j c))) w):=by
 obtain⟨g,o,cap,rfl,hDg,hc1,hc2,hcx⟩:=hseg.cell (by omega)
 clear hcx
 obtain⟨sa,aad,ac,ads,a0,a1,a2,a3,aS,aG,aV,aR⟩:=Zb0 hseg rfl hvs 0 (by simp)
 obtain⟨sb,bad,bc,bds,b0,b1,b2,b3,bS,bG,bV,bR⟩:=Zb0 hseg rfl hvs 1 (by simp)
 obtain⟨sc,cad,cc,cds,c0,c1,c2,c3,cS,cG,cV,cR⟩:=Zb0 hseg rfl hvs 2 (by simp)
 simp only[List.getElem_cons_zero,List.getElem_cons_succ,Nat.zero_mul,Nat.add_zero,Nat.one_mul] at a0 a1 a2 a3 b0 b1 b2 b3 c0 c1 c2 c3 aS aG aV aR bS bG bV bR cS cG cV cR
 have lg:=Zae a0
 simp only at lg
 have n0:w.heap.size≠g:=by omega
 have n1:w.heap.size+1≠g:=by omega
 have n2:w.heap.size+2≠g:=by omega
 have n3:w.heap.size+3≠g:=by omega
 unfold maxLen at hc2
 simp only[Zbe,Zd1,Za7] at a0 a1 a3 aG aV b0 b1
 simp only[show o+2*4=o+8 from rfl] at c0 c1 c2 c3
 obtain⟨g2,o2,cap2,hsv,hDg2,hd1,hd2,hcx⟩:=aG.cell (by omega)
 clear hcx
 simp only[Value.slice.injEq] at hsv
 obtain⟨rfl,_,rfl⟩:=hsv
 have hpre:=aG.pre j (by omega)
 have hsuf0:=aG.suf (j+1) (by omega)
 obtain⟨ya,hya,hsuf⟩:∃ya,(if ac=j+1 then some (⟨g2,o2,none⟩:Addr) else some ⟨g2,o2+(j+1)*4,none⟩)=ya∧Zar w D 46 4 (.slice ya (l.length-(j+1)) (ac-(j+1))) (l.length-(j+1)) (ads.drop ((j+1)*4)):=by
  refine⟨_,rfl,?_⟩
  split
  ·have h0:l.length-(j+1)=0:=by omega
   exact⟨hsuf0.1,Or.inl ⟨⟨_,_,by rw[h0]⟩,h0⟩⟩
  ·exact hsuf0
 clear hsuf0
 have hwj:IntKind.i64.wrap ((j:Int)+1)=((j+1:Nat):Int):=by rw[IntKind.wrap_i64];omega
 have hjb1:(0:Int)≤(j:Int)+1:=by omega
 have hjb2:(j:Int)+1≤(l.length:Int):=by omega
 have hone:=aV.one_cell
 have hall:RVs w D (l.set j c) (ads.take (j*4)++[.int .u8 (Zbe c:Int),.int .i64 (Zd1 c),.string sc,.slice cad (Za7 c).length cc]++ads.drop ((j+1)*4)):=by
  rw[Z0g l j hj c]
  exact (aV.drop (j+1)).append ((RVs.one cR).append (aV.take j))
 have HALL:Aside (RVs w D (l.set j c) (ads.take (j*4)++[.int .u8 (Zbe c:Int),.int .i64 (Zd1 c),.string sc,.slice cad (Za7 c).length cc]++ads.drop ((j+1)*4))):=hall
 have os0:=OS.start w (.int .u8 108) (.int .i64 0) (.string sa) (.slice (some ⟨g2,o2,none⟩) l.length ac) (.int .u8 108) (.int .i64 0) (.string ⟨#[]⟩)
 clear aS aG aV aR bS bG bV bR cS cG cV cR hvs hseg hDg hDg2 hall
 unfold maxLen at hd2
 have hjac:j≤ac:=by omega
 have hjac1:j+1≤ac:=by omega
 have hjl1:j+1≤l.length:=by omega
 generalize (Zbe c:Int)=kc at *
 generalize Zd1 c=zc at *
 generalize (Za7 c).length=lc at *
 go_enter func206,ntmps206
 go_upto_region 21 with fail
 go_cut [] (fun wx=>∃(oad:Option Addr) (ocap:Nat),OS w wx (.int .u8 108) (.int .i64 0) (.string sa) (.slice (some ⟨g2,o2,none⟩) l.length ac) (.int .u8 108) (.int .i64 0) (.string ⟨#[]⟩) (.slice oad j ocap) j (ads.take (j*4)))
 case first =>
  obtain⟨p0,p1,p2,p3,pf⟩:=Zak os0.b2
  go_region_law (go_loud (obtain⟨i0,hi,hz0,hz1,hz2⟩:=info_parts Tryz.infoVal;refine Zd4 (D:=D) ?_ (.tmp 115) (.tmp 119) 44 ?_ (w.heap.size+3) 46 i0 (.agg #[.int .u8 0,.int .i64 0,.string ⟨#[]⟩,.slice none 0 0]) 4 56 underlying44 hi hz0 hz1 hz2 rfl (by decide) (.slice none 0 0) 0 [] ?_ ?_ (.slice (some ⟨g2,o2,none⟩) j ac) j (ads.take (j*4)) ?_ ?_ ?_ (by unfold maxLen;omega) (by omega) ?_ ?_;(rfl);(rfl);(rfl);(first | exact os0.own | exact os0.drew.own);(rfl);(first | exact hpre.below os0.hb | exact hpre.below os0.drew.hb);(intro u hu;exact hone u (List.mem_of_mem_take hu));(first | exact os0.lt | (exact os0.drew.lt));clear hi hz0 hz1 hz2;intro v' w5 own5 hg5 hat5;simp only[Nat.zero_add,List.nil_append] at own5;obtain⟨oad,ocap,rfl⟩:=Zaf own5;obtain⟨oc,ob2,ob1⟩:=os0.step (by first | exact Below.refl _ _ | exact (Below.refl _ _).drew) own5 hg5;obtain⟨z0,z1,z2,z3,zf⟩:=Zak ob2))
  all_goals go_wp2_with fail
  all_goals go_meet
  all_goals first
   | exact⟨_,_,oc⟩
   | exact⟨_,_,oc.drew⟩
 case rest =>
  obtain⟨oad,ocap,os1⟩:=hcut
  clear os0 hpre
  have lt1:=os1.lt
  obtain⟨p0,p1,p2,p3,pf⟩:=Zak os1.b2
  obtain⟨r0,r1,r2,r3,rf⟩:=Zak os1.b1
  have d0:=Below.cellv os1.hb c0
  have d1:=Below.cellv os1.hb c1
  have d2:=Below.cellv os1.hb c2
  have d3:=Below.cellv os1.hb c3
  have lw:=os1.hb.size
  have ng:wc.heap.size≠g:=by omega
  have ng1:wc.heap.size≠w.heap.size+1+1:=by omega
  have ng2:w.heap.size+1+1<wc.heap.size:=by omega
  have ng3:w.heap.size+1<wc.heap.size:=by omega
  go_upto_region 22 with fail
  go_cut [] (fun wx=>∃(oad:Option Addr) (ocap:Nat),OS w wx (.int .u8 108) (.int .i64 0) (.string sa) (.slice (some ⟨g2,o2,none⟩) l.length ac) (.int .u8 108) (.int .i64 0) (.string ⟨#[]⟩) (.slice oad (j+1) ocap) (j+1) (ads.take (j*4)++[.int .u8 kc,.int .i64 zc,.string sc,.slice cad lc cc]))
  case first =>
   go_region_law (go_loud (obtain⟨i0,hi,hz0,hz1,hz2⟩:=info_parts Tryz.infoVal;refine Zd4 (D:=(fun _=>True)) ?_ (.tmp 123) (.tmp 127) 44 ?_ (w.heap.size+3) 46 i0 (.agg #[.int .u8 0,.int .i64 0,.string ⟨#[]⟩,.slice none 0 0]) 4 56 underlying44 hi hz0 hz1 hz2 rfl (by decide) (.slice oad j ocap) (j) (ads.take (j*4)) ?_ ?_ (.slice (some ⟨wc.heap.size,0,none⟩) 1 1) (1) ([.int .u8 kc,.int .i64 zc,.string sc,.slice cad lc cc]) ?_ ?_ ?_ (by unfold maxLen;omega) (by omega) ?_ ?_;(rfl);(rfl);(rfl);(first | exact os1.own.alloc _ | exact os1.drew.own.alloc _ | exact (os1.own.alloc _).drew);(rfl);(first | exact Z0i _ _ _ _ _ | exact (Z0i _ _ _ _ _).heap rfl);(intro u hu;simp at hu;rcases hu with h | h | h | h<;>(subst h;rfl));(simp;omega);clear hi hz0 hz1 hz2;intro v' w5 own5 hg5 hat5;obtain⟨oad2,ocap2,rfl⟩:=Zaf own5;obtain⟨oc,ob2,ob1⟩:=os1.step (by first | exact Zab _ _ | exact (Zab _ _).drew | exact ((Below.refl _ _).drew).alloc (Nat.le_refl _) _) own5 hg5;obtain⟨z0,z1,z2,z3,zf⟩:=Zak ob2))
   all_goals go_wp2_with fail
   all_goals go_meet
   all_goals first
    | exact⟨_,_,oc⟩
    | exact⟨_,_,oc.drew⟩
  case rest =>
   obtain⟨oad,ocap,os2⟩:=hcut
   clear os1 lt1 p0 p1 p2 p3 pf r0 r1 r2 r3 rf d0 d1 d2 d3 lw ng ng1 ng2 ng3
   have lt2:=os2.lt
   obtain⟨p0,p1,p2,p3,pf⟩:=Zak os2.b2
   obtain⟨r0,r1,r2,r3,rf⟩:=Zak os2.b1
   go_upto_region 23 with fail
   go_cut [] (fun wx=>∃(oad:Option Addr) (ocap:Nat),OS w wx (.int .u8 108) (.int .i64 0) (.string sa) (.slice (some ⟨g2,o2,none⟩) l.length ac) (.int .u8 108) (.int .i64 0) (.string ⟨#[]⟩) (.slice oad l.length ocap) l.length (ads.take (j*4)++[.int .u8 kc,.int .i64 zc,.string sc,.slice cad lc cc]++ads.drop ((j+1)*4)))
   case first =>
    go_region_law (go_loud (obtain⟨i0,hi,hz0,hz1,hz2⟩:=info_parts Tryz.infoVal;refine Zd4 (D:=D) ?_ (.tmp 131) (.tmp 136) 44 ?_ (w.heap.size+3) 46 i0 (.agg #[.int .u8 0,.int .i64 0,.string ⟨#[]⟩,.slice none 0 0]) 4 56 underlying44 hi hz0 hz1 hz2 rfl (by decide) (.slice oad (j+1) ocap) (j+1) (ads.take (j*4)++[.int .u8 kc,.int .i64 zc,.string sc,.slice cad lc cc]) ?_ ?_ (.slice ya (l.length-(j+1)) (ac-(j+1))) (l.length-(j+1)) (ads.drop ((j+1)*4)) ?_ ?_ ?_ (by unfold maxLen;omega) (by omega) ?_ ?_;(rfl);(rfl);(rfl);(first | exact os2.own | exact os2.drew.own);(rfl);(first | exact hsuf.below os2.hb | exact hsuf.below os2.drew.hb);(intro u hu;exact hone u (List.mem_of_mem_drop hu));(first | exact os2.lt | (exact os2.drew.lt));clear hi hz0 hz1 hz2;intro v' w5 own5 hg5 hat5;rw[show j+1+(l.length-(j+1))=l.length from (by omega)] at own5;obtain⟨oad2,ocap2,rfl⟩:=Zaf own5;obtain⟨oc,ob2,ob1⟩:=os2.step (by first | exact Below.refl _ _ | exact (Below.refl _ _).drew) own5 hg5;obtain⟨z0,z1,z2,z3,zf⟩:=Zak ob2))
    all_goals go_wp2_with fail
    all_goals go_meet
    all_goals first
     | exact⟨_,_,oc⟩
     | exact⟨_,_,oc.drew⟩
   case rest =>
    obtain⟨oad,ocap,os3⟩:=hcut
    clear os2 lt2 p0 p1 p2 p3 pf r0 r1 r2 r3 rf
    obtain⟨p0,p1,p2,p3,pf⟩:=Zak os3.b2
    obtain⟨q0,q1,q2,q3,qf⟩:=Zak os3.b0
    have os4:OS w wc (.int .u8 108) (.int .i64 0) (.string sa) (.slice (some ⟨g2,o2,none⟩) l.length ac) (.int .u8 108) (.int .i64 0) (.string ⟨#[]⟩) (.slice oad (l.set j c).length ocap) (l.set j c).length (ads.take (j*4)++[.int .u8 kc,.int .i64 zc,.string sc,.slice cad lc cc]++ads.drop ((j+1)*4)):=by rw[List.length_set];exact os3
    have fin:=fun x0 x1 x2 x3=>os4.done hD HALL.out x0 x1 x2 x3
    rw[List.length_set] at fin
    have FIN:Aside (∀x0 x1 x2 x3:Value,_):=fin
    clear fin os4
    go_wp2
    exact bodyPost_ret (v:=.tuple #[.agg #[.int .u8 108,.int .i64 0,.string ⟨#[]⟩,.slice oad l.length ocap],.bool true]) (by simp[results,results206,go_sem,q0,q1,q2,q3]) rfl (Zd5 rfl (FIN.out _ _ _ _).1 (FIN.out _ _ _ _).2)
theorem Zxv (D:Nat→Prop)(a b c:PV)(sl:Value)(cs:List Value)(w:World)(hseg:Zar w D 46 4 sl 3 cs)(hvs:RVs w D [a,b,c] cs)(hwa:wtV a≤600)(hD:∀g,w.heap.size≤g→D g):
  Calls prog 206 #[.string ⟨#[115,101,116]⟩,sl] w (Zfk D (Za1 [115,101,116] [a,b,c]) w):=by
 have hseg':=hseg
 have hvs':=hvs
 obtain⟨g,o,cap,rfl,hDg,hc1,hc2,hcx⟩:=hseg.cell (by omega)
 clear hcx
 obtain⟨sa,aad,ac,ads,a0,a1,a2,a3,aS,aG,aV,aR⟩:=Zb0 hseg rfl hvs 0 (by simp)
 obtain⟨sb,bad,bc,bds,b0,b1,b2,b3,bS,bG,bV,bR⟩:=Zb0 hseg rfl hvs 1 (by simp)
 obtain⟨sc,cad,cc,cds,c0,c1,c2,c3,cS,cG,cV,cR⟩:=Zb0 hseg rfl hvs 2 (by simp)
 simp only[List.getElem_cons_zero,List.getElem_cons_succ,Nat.zero_mul,Nat.add_zero,Nat.one_mul] at a0 a1 a2 a3 b0 b1 b2 b3 c0 c1 c2 c3 aS aG aV aR bS bG bV bR cS cG cV cR
 have lg:=Zae a0
 simp only at lg
 have n0:w.heap.size≠g:=by omega
 have n1:w.heap.size+1≠g:=by omega
 have n2:w.heap.size+2≠g:=by omega
 have n3:w.heap.size+3≠g:=by omega
 unfold maxLen at hc2
 cases a with
 | num x =>
  have hres:Za1 [115,101,116] [.num x,b,c]=none:=by cases b<;>rfl
  simp only[Zbe,Zd1,Za7] at a0 a1 a3
  rw[hres]
  clear aS aG aV aR bS bG bV bR cS cG cV cR hvs hseg hDg hres hseg' hvs'
  go_enter func206,ntmps206
  go_wp2
  exact bodyPost_ret (v:=.tuple #[.agg #[.int .u8 0,.int .i64 0,.string ⟨#[]⟩,.slice none 0 0],.bool false]) (by simp[results,results206,go_sem]) rfl (Zbm rfl (below2 w _ _))
 | txt x =>
  have hres:Za1 [115,101,116] [.txt x,b,c]=none:=by cases b<;>rfl
  simp only[Zbe,Zd1,Za7] at a0 a1 a3
  rw[hres]
  clear aS aG aV aR bS bG bV bR cS cG cV cR hvs hseg hDg hres hseg' hvs'
  go_enter func206,ntmps206
  go_wp2
  exact bodyPost_ret (v:=.tuple #[.agg #[.int .u8 0,.int .i64 0,.string ⟨#[]⟩,.slice none 0 0],.bool false]) (by simp[results,results206,go_sem]) rfl (Zbm rfl (below2 w _ _))
 | lst l =>
  rw[wtV] at hwa
  have hll:l.length≤600:=by have:=Zdd l;omega
  simp only[Zbe,Zd1,Za7] at a0 a1 a3 aG aV
  cases b with
  | txt y =>
   simp only[Zbe,Zd1] at b0 b1
   have hres:Za1 [115,101,116] [.lst l,.txt y,c]=none:=rfl
   rw[hres]
   clear aS aG aV aR bS bG bV bR cS cG cV cR hvs hseg hDg hres hseg' hvs'
   go_enter func206,ntmps206
   go_wp2
   exact bodyPost_ret (v:=.tuple #[.agg #[.int .u8 0,.int .i64 0,.string ⟨#[]⟩,.slice none 0 0],.bool false]) (by simp[results,results206,go_sem]) rfl (Zbm rfl (below2 w _ _))
  | lst y =>
   simp only[Zbe,Zd1] at b0 b1
   have hres:Za1 [115,101,116] [.lst l,.lst y,c]=none:=rfl
   rw[hres]
   clear aS aG aV aR bS bG bV bR cS cG cV cR hvs hseg hDg hres hseg' hvs'
   go_enter func206,ntmps206
   go_wp2
   exact bodyPost_ret (v:=.tuple #[.agg #[.int .u8 0,.int .i64 0,.string ⟨#[]⟩,.slice none 0 0],.bool false]) (by simp[results,results206,go_sem]) rfl (Zbm rfl (below2 w _ _))
  | num i =>
   simp only[Zbe,Zd1] at b0 b1
   by_cases hi0:i<0
   ·have hres:Za1 [115,101,116] [.lst l,.num i,c]=none:=by simp[Za1,set3,Zzt];omega
    rw[hres]
    clear aS aG aV aR bS bG bV bR cS cG cV cR hvs hseg hDg hres hseg' hvs'
    go_enter func206,ntmps206
    go_wp2
    exact bodyPost_ret (v:=.tuple #[.agg #[.int .u8 0,.int .i64 0,.string ⟨#[]⟩,.slice none 0 0],.bool false]) (by simp[results,results206,go_sem]) rfl (Zbm rfl (below2 w _ _))
   ·by_cases hil:(l.length:Int)≤i
    ·have hres:Za1 [115,101,116] [.lst l,.num i,c]=none:=by simp[Za1,set3,Zzt];omega
     rw[hres]
     clear aS aG aV aR bS bG bV bR cS cG cV cR hvs hseg hDg hres hseg' hvs'
     go_enter func206,ntmps206
     go_wp2
     exact bodyPost_ret (v:=.tuple #[.agg #[.int .u8 0,.int .i64 0,.string ⟨#[]⟩,.slice none 0 0],.bool false]) (by simp[results,results206,go_sem]) rfl (Zbm rfl (below2 w _ _))
    ·obtain⟨j,rfl⟩:∃j:Nat,i=(j:Int):=⟨i.toNat,by omega⟩
     have hj:j<l.length:=by omega
     have hres:Za1 [115,101,116] [.lst l,.num (j:Int),c]=some (.lst (l.set j c)):=by simp[Za1,set3,Zzt,hj]
     rw[hres]
     exact Zqq D l j hj c _ cs w hseg' hvs' hll hD
end Go.Proofs.YtliapghpeoaonaaGreatDoor
