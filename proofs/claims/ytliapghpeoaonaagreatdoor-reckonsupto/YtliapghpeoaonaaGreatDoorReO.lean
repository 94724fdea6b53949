/-
  The program: carryOut, whichever expr; reckon with however many steps.
-/
import Derived.Test.YtliapghpeoaonaaGreatDoorReM
import Derived.Test.YtliapghpeoaonaaGreatDoorTouch
import Derived.Test.YtliapghpeoaonaaGreatDoorFaB
import Derived.Test.YtliapghpeoaonaaGreatDoorVaI
import Derived.Test.YtliapghpeoaonaaGreatDoorSegApp
import Derived.Test.YtliapghpeoaonaaGreatDoorRnm
set_option maxHeartbeats 8000000
set_option maxRecDepth 8000
namespace Go.Proofs.YtliapghpeoaonaaGreatDoor
open Go.Proofs.Tryz
open Go.RowKit Go.Lib
theorem XPo.kid {fns:List Fn}{s:Env}{wd n:List UInt8}{a:Nat}{ks:List Ex}(h:XPo fns s (.form wd n a ks))(h2:wd≠[108,101,116]):∀e∈ks,XPo fns s e:=by
 intro e he
 obtain⟨f,lit,wf,sz,sc,hs⟩:=h
 rw[Zjd] at lit
 rw[WfE] at wf
 rw[szE] at sz
 rw[ScE] at hs
 exact⟨f,Zos lit e he,Zr7 wf.2 e he,by have:=Zwd he;omega,sc,Zxb (hs.2.2 h2) e he⟩
section
variable {mb k0:Nat} {fns:List Fn} {E:Nat→Env→Ex→Option (PV×Nat)}
theorem evX_list (k:Nat)(s:Env)(n:List UInt8)(a:Nat)(ks:List Ex):evX E fns k s (.form [108,105,115,116] n a ks)=Zcu (evL (fun k e=>E k s e) k ks):=by
 simp only[evX]
 rw[if_neg (by decide),if_neg (by decide)]
 cases evL (fun k e=>E k s e) k ks with
 | none=>rfl
 | some x=>rfl
theorem evX_call (k:Nat)(s:Env)(n:List UInt8)(a:Nat)(ks:List Ex):evX E fns k s (.form [99,97,108,108] n a ks)=callR (fun k vs=>evC E fns k n vs) (evL (fun k e=>E k s e) k ks):=by
 simp only[evX]
 rw[if_neg (by decide),if_neg (by decide)]
 cases evL (fun k e=>E k s e) k ks with
 | none=>rfl
 | some x=>rfl
theorem evX_map (k:Nat)(s:Env)(n:List UInt8)(a:Nat)(x:Ex):evX E fns k s (.form [109,97,112] n a [x])=mapR (fun k v=>evC E fns k n [v]) (E k s x):=by
 simp only[evX]
 rw[if_neg (by decide),if_neg (by decide)]
 simp only[evL]
 cases E k s x with
 | none=>rfl
 | some y =>
  obtain⟨v,k1⟩:=y
  cases v<;>rfl
theorem evX_if (k:Nat)(s:Env)(n:List UInt8)(a:Nat)(ks:List Ex):evX E fns k s (.form [105,102] n a ks)=Zrw (fun k e=>E k s e) k ks:=by
 simp only[evX]
 rw[if_pos (by decide)]
theorem evX_let (k:Nat)(s:Env)(n:List UInt8)(a:Nat)(ks:List Ex):evX E fns k s (.form [108,101,116] n a ks)=Zk5 E k s n ks:=by
 simp only[evX]
 rw[if_neg (by decide),if_pos (by decide)]
theorem Zk4 (k:Nat)(s:Env)(wd n:List UInt8)(a:Nat)(ks:List Ex)(h1:wd≠[105,102])(h2:wd≠[108,101,116])(h3:wd≠[108,105,115,116])(h4:wd≠[99,97,108,108])(h5:wd≠[109,97,112]):evX E fns k s (.form wd n a ks)=simR wd (evL (fun k e=>E k s e) k ks):=by
 simp only[evX,if_neg h1,if_neg h2]
 cases evL (fun k e=>E k s e) k ks with
 | none=>rfl
 | some x =>
  simp only[evF,if_neg h3,if_neg h4,if_neg h5]
  rfl
theorem Z0f {wd:List UInt8}(h:Za3 wd=some (false,2)):wd≠[105,102]∧wd≠[108,101,116]∧wd≠[108,105,115,116]∧wd≠[99,97,108,108]∧wd≠[109,97,112]:=by
 refine⟨?_,?_,?_,?_,?_⟩<;>(intro e;rw[e] at h;exact absurd h (by decide))
theorem carry_of (hP:Ze1 fns)(IH:RDo mb fns E k0)(good:Zg2 E)(w:World)(D:Nat→Prop)(k:Nat)(e:Ex)(x:Value)(s:Env)(y:Value)(hk:k≤k0)(hD:¬ D mb)(hD2:∀g,w.heap.size≤g→D g)(hM:Zfw w mb fns k)(hrep:Zc8 w (·<mb) e x)(hs:SC w D s y)(hx:XPo fns s e):
  Calls prog 193 #[.pointer (some ⟨mb,0,none⟩),x,y] w (Zbl D mb fns (evX E fns k s e) w):=by
 obtain⟨o,rfl⟩:=hs.ptr
 have hsf:=hx.fine
 cases e with
 | num b =>
  rw[Zc8] at hrep
  obtain⟨sp,rfl⟩:=hrep
  refine (cy_num w _ _ _ _).mono fun e w' ⟨h1,h2⟩=>?_
  subst h1
  exact Z24 (v:=.num (Zbb b)) (k':=k) (by rw[wtV,if_pos (by omega)];rfl) (by rw[wtV];omega) (Zaa.of_below h2) (Zkf _ _ _) (hM.below h2)
 | txt b =>
  rw[Zc8] at hrep
  obtain⟨sp,bb,rfl,rfl⟩:=hrep
  have hl:=hx.lit
  rw[Zjd] at hl
  refine (cy_txt w _ _ _ _).mono fun e w' ⟨h1,h2⟩=>?_
  subst h1
  exact Z24 (v:=.txt bb.data.toList) (k':=k) (by rw[wtV,if_pos (by omega)];rfl) (by rw[wtV];omega) (Zaa.of_below h2) (VL_txt _ _ _) (hM.below h2)
 | var n a =>
  rw[Zc8] at hrep
  obtain⟨nb,rfl,rfl⟩:=hrep
  refine (cy_var (D:=D) w _ nb _ o (Zey s nb.data.toList) fun X hX=>Zx2 D s _ nb X (hs.below hX)).mono fun e w' h=>?_
  obtain⟨hb,⟨v,z,h1,h2,h3⟩ | ⟨h1,u,f,hf,h2⟩⟩:=h
  ·subst h2
   have hf:=(hsf.of h1).2
   exact Z24 (v:=v) (k':=k) (by rw[if_pos hf];show (Zey s nb.data.toList).map _=_;rw[h1];rfl) (by omega) (Zaa.of_below hb) h3 (hM.below hb)
  ·subst h2
   exact Zk7 (by show (Zey s nb.data.toList).map _=_;rw[h1];rfl) (Zaa.of_below hb) hf
 | form wd n a ks =>
  have hwf:=hx.wf
  rw[WfE] at hwf
  have hsz:=hx.sz
  rw[szE] at hsz
  have hkl:=Zmh ks
  obtain⟨sc,hsc⟩:=hx.sc
  rw[ScE] at hsc
  rw[Zc8] at hrep
  obtain⟨sp,vs,hreps,hF⟩:=hrep
  have hvl:=hreps.length
  rcases hF with ⟨rfl,sl,rfl,hrow⟩ | ⟨rfl,nb,sl,hnb,_,rfl,hrow⟩ | ⟨rfl,nb,v0,hnb,_,rfl,rfl⟩ | ⟨rfl,nb,v0,v1,hnb,_,rfl,rfl⟩ | ⟨rfl,v0,v1,v2,rfl,rfl⟩ | ⟨rfl,v0,v1,v2,rfl,rfl⟩ | ⟨rfl,v0,rfl,rfl⟩ | ⟨hsh,ob,v0,v1,hob,rfl,rfl⟩
  ·have hk2:=hx.kid (by decide)
   obtain⟨ad,cap,rfl⟩:=(Zar.of_row hrow).slice
   rw[evX_list]
   rw[hvl] at hrow ⊢
   exact cy_list w _ ad ks.length cap _ o ks.length k _ (by omega) fun X hX=>Zr5 IH good w D k ks vs s _ hk hD hD2 hM hreps hs hk2 hsf (by omega) X _ hX ((Zai hrow hX).weaken fun g hg=>by have hg:g<mb:=hg;show g≠mb;omega)
  ·have hk2:=hx.kid (by decide)
   obtain⟨ad,cap,rfl⟩:=(Zar.of_row hrow).slice
   rw[evX_call]
   rw[hvl] at hrow ⊢
   exact cy_call w _ nb _ ad ks.length cap _ o fun X hX=>Zv1 hP IH good X D k n ks vs _ _ nb ad cap s _ hk hD (fun g hg=>hD2 g (by have:=hX.size;omega)) (hM.below hX) hnb (hsc.1 (Or.inl rfl)) ((hreps.keep fun q _ hlt=>hX.block q hlt).weaken fun q hq=>hq.1) (Zai hrow hX) (hs.below hX) hk2 hsf (by omega)
  ·obtain⟨x0,rfl⟩:∃x0,ks=[x0]:=by
    match ks,hvl with
    | [x0],_=>exact⟨x0,rfl⟩
   have hk2:=hx.kid (by decide)
   have h0:=hreps.at 0 (by simp) (by simp)
   obtain⟨t0,y0,rfl⟩:=h0.iface
   rw[evX_map]
   exact cy_map w _ nb _ t0 y0 _ o fun X hX=>map_of hP IH good X D k n x0 _ _ nb _ s _ hk hD (fun g hg=>hD2 g (by have:=hX.size;omega)) (hM.below hX) hnb (hsc.1 (Or.inr rfl)) (h0.below hX) (hs.below hX) (hk2 x0 (by simp))
  ·obtain⟨x0,x1,rfl⟩:∃x0 x1,ks=[x0,x1]:=by
    match ks,hvl with
    | [x0,x1],_=>exact⟨x0,x1,rfl⟩
   have h0:=hreps.at 0 (by simp) (by simp)
   have h1:=hreps.at 1 (by simp) (by simp)
   obtain⟨t0,y0,rfl⟩:=h0.iface
   obtain⟨t1,y1,rfl⟩:=h1.iface
   have hlet:=hsc.2.1 rfl
   rw[Z31,Zzw] at hlet
   have hlit:=hx.lit
   rw[Zjd,Zer,Zer] at hlit
   have hw2:=hwf.2
   rw[Zp9,Zp9] at hw2
   rw[Zes,Zes] at hsz
   rw[evX_let]
   exact cy_let w _ nb _ t0 t1 y0 y1 _ o fun X hX=>let_of IH good X D k n x0 x1 _ _ nb _ _ s _ hk hD (fun g hg=>hD2 g (by have:=hX.size;omega)) (hM.below hX) hnb (h0.below hX) (h1.below hX) (hs.below hX) ⟨hsf,hlit.1,hw2.1,by omega,sc,hlet.1⟩ fun u hu=>⟨hsf.cons hu,hlit.2.1,hw2.2.1,by omega,_,hlet.2.1⟩
  ·obtain⟨x0,x1,x2,rfl⟩:∃x0 x1 x2,ks=[x0,x1,x2]:=by
    match ks,hvl with
    | [x0,x1,x2],_=>exact⟨x0,x1,x2,rfl⟩
   have hk2:=hx.kid (by decide)
   have h0:=hreps.at 0 (by simp) (by simp)
   have h1:=hreps.at 1 (by simp) (by simp)
   have h2:=hreps.at 2 (by simp) (by simp)
   obtain⟨t0,y0,rfl⟩:=h0.iface
   obtain⟨t1,y1,rfl⟩:=h1.iface
   obtain⟨t2,y2,rfl⟩:=h2.iface
   rw[evX_if]
   exact Z22 w _ t0 t1 t2 y0 y1 y2 _ o fun X hX=>Z29 IH good X D k x0 x1 x2 _ _ _ _ s _ hk hD (fun g hg=>hD2 g (by have:=hX.size;omega)) (hM.below hX) (h0.below hX) (h1.below hX) (h2.below hX) (hs.below hX) (hk2 x0 (by simp)) (hk2 x1 (by simp)) (hk2 x2 (by simp))
  ·obtain⟨x0,x1,x2,rfl⟩:∃x0 x1 x2,ks=[x0,x1,x2]:=by
    match ks,hvl with
    | [x0,x1,x2],_=>exact⟨x0,x1,x2,rfl⟩
   have hk2:=hx.kid (by decide)
   obtain⟨t0,y0,rfl⟩:=(hreps.at 0 (by simp) (by simp)).iface
   obtain⟨t1,y1,rfl⟩:=(hreps.at 1 (by simp) (by simp)).iface
   obtain⟨t2,y2,rfl⟩:=(hreps.at 2 (by simp) (by simp)).iface
   rw[Zk4 _ _ _ _ _ _ (by decide) (by decide) (by decide) (by decide) (by decide)]
   exact cy_set w _ t0 t1 t2 y0 y1 y2 _ o fun X hX=>set_of IH good X D k _ x0 x1 x2 _ _ _ _ s _ hk hD (fun g hg=>hD2 g (by have:=hX.size;omega)) (hM.below hX) ((hreps.keep fun q _ hlt=>hX.block q hlt).weaken fun q hq=>hq.1) (hs.below hX) hk2 hsf
  ·obtain⟨x0,rfl⟩:∃x0,ks=[x0]:=by
    match ks,hvl with
    | [x0],_=>exact⟨x0,rfl⟩
   have hk2:=hx.kid (by decide)
   have h0:=hreps.at 0 (by simp) (by simp)
   obtain⟨t0,y0,rfl⟩:=h0.iface
   rw[Zk4 _ _ _ _ _ _ (by decide) (by decide) (by decide) (by decide) (by decide)]
   exact Z21 w _ t0 y0 _ o fun X hX=>Z15 IH good X D k _ x0 _ _ s _ hk hD (fun g hg=>hD2 g (by have:=hX.size;omega)) (hM.below hX) (h0.below hX) (hs.below hX) (hk2 x0 (by simp))
  ·obtain⟨x0,x1,rfl⟩:∃x0 x1,ks=[x0,x1]:=by
    match ks,hvl with
    | [x0,x1],_=>exact⟨x0,x1,rfl⟩
   obtain⟨n1,n2,n3,n4,n5⟩:=Z0f hsh
   have hk2:=hx.kid n2
   obtain⟨t0,y0,rfl⟩:=(hreps.at 0 (by simp) (by simp)).iface
   obtain⟨t1,y1,rfl⟩:=(hreps.at 1 (by simp) (by simp)).iface
   rw[Zk4 _ _ _ _ _ _ n1 n2 n3 n4 n5]
   exact Z23 w _ ob t0 t1 y0 y1 _ o fun X hX=>Z3n IH good X D k _ x0 x1 _ ob _ _ s _ hk hD (fun g hg=>hD2 g (by have:=hX.size;omega)) (hM.below hX) hsh hob ((hreps.keep fun q _ hlt=>hX.block q hlt).weaken fun q hq=>hq.1) (hs.below hX) hk2 hsf
theorem rk_one (hP:Ze1 fns)(good:Zg2 E){j:Nat}(IH:RDo mb fns E j)(X:World)(D:Nat→Prop)(e:Ex)(x:Value)(s:Env)(y:Value)(hD:¬ D mb)(hD2:∀g,X.heap.size≤g→D g)(hM:Zfw X mb fns (j+1))(hrep:Zc8 X (·<mb) e x)(hs:SC X D s y)(hx:XPo fns s e):
  Calls prog 152 #[.pointer (some ⟨mb,0,none⟩),x,y] X (Zez D mb fns (evX E fns j s e) X) :=
 Z0r D hM x y hrep.place hs.ptr _ fun Y hY hMY=>carry_of hP IH good Y D j e x s y (Nat.le_refl _) hD (fun g hg=>hD2 g (by have:=hY.size;omega)) hMY (hrep.touch hY) (hs.touch hY fun q hq e=>hD (by have e:q=mb:=e;rw[←e];exact hq)) hx
theorem rk_all (hP:Ze1 fns):∀f k,k≤f→RDo mb fns (evE fns f) k
 | 0,k,hk=>fun X D k' e x s y hk' hD hD2 hM hrep hs hx=>by
  have h0:k'=0:=by omega
  subst h0
  exact Zlo D hM x y hrep.place hs.ptr
 | f+1,k,hk=>fun X D k' e x s y hk' hD hD2 hM hrep hs hx=>by
  cases k' with
  | zero=>exact Zlo D hM x y hrep.place hs.ptr
  | succ j=>exact rk_one hP (Zj9 hP.lit f) (rk_all hP f j (by omega)) X D e x s y hD hD2 hM hrep hs hx
end
end Go.Proofs.YtliapghpeoaonaaGreatDoor
namespace Go.Proofs.YtliapghpeoaonaaGreatDoor
open Go.Proofs.Tryz
open Go.RowKit Go.Lib
attribute [local go_sem ↓] Go.wp_at_zero Go.wp_at_succ
theorem Zp6 {n:List UInt8}{k:Nat}:∀{fns:List Fn},Z3x fns→findF fns n k=match fns.find? (fun f=>f.name==n) with | none=>none | some f=>if f.params.length=k then some f else none
 | [],_=>rfl
 | f::r,h=>by
  obtain⟨h1,h2⟩:=List.pairwise_cons.1 h
  have ih:=Zp6 (n:=n) (k:=k) h2
  unfold findF at ih ⊢
  by_cases hn:f.name=n
  ·have hb:(f.name==n)=true:=by simpa using hn
   simp only[List.find?_cons,hb,Bool.true_and]
   by_cases hk:f.params.length=k
   ·have hb2:(f.params.length==k)=true:=by simpa using hk
    rw[hb2]
    simp[hk]
   ·have hb2:(f.params.length==k)=false:=by simpa using hk
    rw[hb2]
    simp only[if_neg hk]
    rw[List.find?_eq_none]
    intro x hx
    have:=h1 x hx
    rw[hn] at this
    simp[Ne.symm this]
  ·have hb:(f.name==n)=false:=by simpa using hn
   simp only[List.find?_cons,hb,Bool.false_and]
   exact ih
theorem Zqy {fns:List Fn}(h:Z3x fns)(n:List UInt8)(vs:List PV):Zf4 fns n vs=(Zy8 (evE fns 20000) fns 20000 n vs).map (·.1):=by
 unfold Zf4 Zy8
 rw[Zp6 h]
 cases fns.find? (fun f=>f.name==n) with
 | none=>rfl
 | some f =>
  simp only
  by_cases hk:f.params.length=vs.length
  ·rw[if_pos hk,if_pos hk]
  ·rw[if_neg hk,if_neg hk]
   rfl
theorem Z1u {fns:List Fn}(hP:Ze1 fns)(hU:Z3x fns)(w:World)(D D0:Nat→Prop)(nm:ByteArray)(vs:List PV)(cs:List Value)(sl:Value)(ad:Option Addr)(n cap:Nat)(hprog:Zfs w D (.slice ad n cap) fns)(hG:Zzx w)(hm:15≤w.heap.size)
  (hseg:Zar w D0 81 1 sl vs.length cs) (hvs:VLs w D0 vs cs) (hf:∀v∈vs,Zec v) (hl:vs.length≤100000000) :
  Calls prog 62 #[.agg #[.slice ad n cap],.string nm,sl] w (Zcx (fun _=>True) w (Zf4 fns nm.data.toList vs)):=by
 obtain⟨R,hR⟩:∃R,R=Zf4 fns nm.data.toList vs:=⟨_,rfl⟩
 rw[←hR]
 have CC:Hid (∀(Z:World) (mb:Nat),Below w.heap.size w Z→w.heap.size≤mb→Z.heap[mb]?=some (.cells #[.slice ad n cap,.int .i64 0] 219)→Calls prog 105 #[.pointer (some ⟨mb,0,none⟩),.string nm,sl] Z fun e w'=>(∃u f,e=.returned (.tuple #[u,f]))∧Zcx (fun _=>True) w R e w'):=fun Z mb hZ hmb hblk=>by
  have hlt:=Zag hblk
  have hMZ:Zfw Z mb fns 20000:=⟨⟨ad,n,cap,0,hblk,by omega,(hprog.keep fun q _ hq=>hZ.block q hq).weaken fun q hq=>by have:=hq.2;show q<mb;omega⟩,Nat.le_refl _,hG.below hZ,by omega⟩
  have hsZ:Zar Z (·≠mb) 81 1 sl vs.length cs:=(hseg.keep fun q _ hq=>hZ.block q hq).weaken fun q hq=>by have:=hq.2;show q≠mb;omega
  have hvZ:VLs Z (·≠mb) vs cs:=hvs.map fun _ _ _ g=>(g.keep fun q _ hq=>hZ.block q hq).weaken fun q hq=>by have:=hq.2;show q≠mb;omega
  refine (Zv0 hP (rk_all (mb:=mb) hP 20000 20000 (Nat.le_refl _)) Z (·≠mb) 20000 nm vs cs sl (Nat.le_refl _) (fun h=>h rfl) (fun g hg=>by show g≠mb;omega) hMZ hsZ hvZ hf hl).mono fun e w' h=>⟨Zps h,?_⟩
  obtain⟨ht,h2⟩:=h
  have hb:Below w.heap.size w w':=Zaa.fresh hZ ht fun q hq=>by show ¬ q=mb;omega
  rcases h2 with ⟨v,x,k',ho,he,hv,_⟩ | ⟨ho,u,f,hff,he⟩
  ·exact⟨hb,Or.inl ⟨v,x,by rw[hR,Zqy hU,ho];rfl,he,hv.weaken fun _ _=>trivial⟩⟩
  ·exact⟨hb,Or.inr ⟨by rw[hR,Zqy hU,ho];rfl,u,f,hff,he⟩⟩
 obtain⟨sad,scap,rfl⟩:=hseg.slice
 clear hseg hvs hprog hG hR hf
 go_enter func62,ntmps62
 go_wp2_with (go_at_call 105;go_loud (refine (CC.out _ _ (by first | exact Zab w _ | exact (Zab w _).alloc (by simp) _) (by simp) (by first | exact blk2 _ _ _ | exact heap_alloc_new _ _)).mono ?_;rintro e w1 ⟨⟨u1,f1,rfl⟩,hr1⟩))
 go_ret2
 exact hr1
structure RL (w wr:World)(ad:Option Addr)(cap:Nat)(vs:List PV)(cs:List Value):Prop where
 own:wr.ownsRow w.heap.size 81 1 (.slice ad vs.length cap) vs.length cs
 val:VLs wr (fun b=>w.heap.size≤b∧some b≠(Value.slice ad vs.length cap).ownBlock) vs cs
 bel:Below w.heap.size w wr
theorem RL.start (w:World):RL w w none 0 [] []:=⟨World.ownsRow_nil _ _ _ _,by rw[VLs],Below.refl _ _⟩
theorem RL.step {w wr w4 w6:World}{ad:Option Addr}{cap:Nat}{vs:List PV}{cs:List Value}{o:Obj}{v:PV}{x v':Value}(h:RL w wr ad cap vs cs)(hb:Below wr.heap.size wr w4)
  (hv:VL w4 (wr.heap.size<·) v x) (hown:w6.ownsRow w.heap.size 81 1 v' (vs.length+1) (cs++[x])) (hgrow:(w4.alloc o).grownBy w6 (Value.slice ad vs.length cap).ownBlock) (hob:v'.ownBlock=(Value.slice ad vs.length cap).ownBlock∨v'.ownBlock=some (w4.alloc o).heap.size) :
  ∃ad' cap',v'=.slice ad' (vs++[v]).length cap'∧RL w w6 ad' cap' (vs++[v]) (cs++[x]):=by
 obtain⟨ad',cap',rfl⟩:=Zaf hown
 have sz:=hb.size
 have sz0:=h.bel.size
 have hlt:∀g,(Value.slice ad vs.length cap).ownBlock=some g→w.heap.size≤g∧g<wr.heap.size:=fun g e=>h.own.lt g e
 have el:(vs++[v]).length=vs.length+1:=by simp
 refine⟨ad',cap',by rw[el],?_,?_,?_⟩
 ·rw[el];exact hown
 ·rw[el]
  exact Zm3 (fun g hg=>Nat.lt_of_lt_of_le (hlt g hg).2 sz) (h.val.below hb) (hv.weaken fun g hg=>⟨by have hg:wr.heap.size<g:=hg;omega,fun e=>by have:=(hlt g e.symm).2;have hg:wr.heap.size<g:=hg;omega⟩) hgrow hob
 ·refine⟨?_,?_,?_,?_,?_⟩
  ·rw[hgrow.os];exact hb.os.trans h.bel.os
  ·rw[hgrow.tape];exact hb.tape.trans h.bel.tape
  ·rw[hgrow.output];exact hb.output.trans h.bel.output
  ·have h1:=hgrow.size
   simp at h1
   omega
  ·intro g hg
   rw[hgrow.block g (by simp;omega) (fun e=>by have:=(hlt g e.symm).1;omega),Za0 _ _ _ (by omega),hb.block g (by omega)]
   exact h.bel.block g hg
def Zwn (w:World)(o:Option (List PV))(e:Ending)(w':World):Prop :=
 Below w.heap.size w w'∧((∃vs sl cs,o=some vs∧e=.returned (.tuple #[sl,.nilIface])∧Zar w' (w.heap.size≤·) 81 1 sl vs.length cs∧VLs w' (w.heap.size≤·) vs cs)∨(o=none∧∃u f,FltW f∧e=.returned (.tuple #[u,f])))
theorem ra_ok {w wr:World}{o:Option (List PV)}{ad:Option Addr}{cap:Nat}{vs:List PV}{cs:List Value}(h:RL w wr ad cap vs cs)(ho:o=some vs):Zwn w o (.returned (.tuple #[.slice ad vs.length cap,.nilIface])) wr :=
 ⟨h.bel,Or.inl ⟨vs,_,cs,ho,rfl,(Zar.of_row (Zao.of_owns h.own)).weaken fun _g hg=>hg,h.val.weaken fun _g hg=>hg.1⟩⟩
theorem Zu6 (sv:Value)(bs:List ByteArray)(w:World)(ha:Zeb w sv bs)(hbl:bs.length≤2000000)(hbz:∀b∈bs,b.size≤1000000000000)(hG:Zl4 w)(h15:15≤w.heap.size):
  Calls prog 61 #[sv] w (Zwn w (Za6 (bs.map (·.data.toList)))):=by
 obtain⟨R,hR⟩:∃R,R=Za6 (bs.map (·.data.toList)):=⟨_,rfl⟩
 rw[←hR]
 obtain⟨ad,cap,rfl,hc1,hc2,_,hcell⟩:=ha
 unfold maxLen at hc2
 have HR:Aside (R=Za6 (bs.map (·.data.toList))):=hR
 clear hR
 have hbi:((bs.length:Nat):Int)≤2000000:=by omega
 go_enter func61,ntmps61
 go_wp2_with fail
 go_loopg [4,11] bs.length (fun gh av iv wr=>∃(j:Nat) (vs:List PV) (cs:List Value) (ad':Option Addr) (cap':Nat),gh=bs.length-j∧iv=.int .i64 ((j:Nat):Int)∧av=.slice ad' vs.length cap'∧j≤bs.length∧Aside (vs.length=j)∧RL w wr ad' cap' vs cs∧Aside (R=Zo8 vs (Za6 ((bs.map (·.data.toList)).drop j))))
 case atStart =>
  refine⟨0,[],[],none,0,by omega,rfl,rfl,Nat.zero_le _,(show _=_ from rfl),RL.start w,?_⟩
  show _=_
  rw[List.drop_zero,HR.out]
  cases Za6 (bs.map (·.data.toList)) with
  | none=>rfl
  | some x=>rfl
 case round =>
  obtain⟨j,vs,cs,ad',cap',rfl,rfl,rfl,hj,hvl,rl,hP⟩:=hrel
  have hvb:vs.length≤2000000:=by have:=hvl.out;omega
  by_cases hjl:j<bs.length
  ·obtain⟨g,o,rfl,hcq⟩:=hcell j hjl
   have hbj:=hbz bs[j] (List.getElem_mem hjl)
   have hltm:j<(bs.map (·.data.toList)).length:=by simpa using hjl
   have hmq:(bs.map (·.data.toList))[j]=bs[j].data.toList:=by simp
   have c0:=Below.cellv rl.bel hcq
   have hsz:=rl.bel.size
   have CE:=Read_any bs[j] wr hbj (hG.below rl.bel) (by omega)
   have NO:Hid (Zfv bs[j].data.toList=none→R=none):=fun h=>by
    rw[HR.out]
    exact Zlq hltm (by rw[←HR.out];exact hP.out) (by rw[hmq];exact h)
   have GO:Hid (∀v,Zfv bs[j].data.toList=some v→Aside (R=Zo8 (vs++[v]) (Za6 ((bs.map (·.data.toList)).drop (j+1))))):=fun v h=>by
    show _=_
    rw[HR.out]
    exact Zlp hltm (by rw[←HR.out];exact hP.out) (by rw[hmq];exact h)
   have hji:(j:Int)<((bs.length:Nat):Int):=by omega
   clear hcell hbz hP hmq hltm
   generalize bs[j]=bj at *
   go_wp2_with fail
   refine CE.mono ?_
   rintro e w4 ⟨hb4,⟨v,x,ho,rfl,hv⟩ | ⟨ho,z,b,rfl⟩⟩
   ·obtain⟨tv,xv,rfl⟩:=hv.iface
    have own4:w4.ownsRow w.heap.size 81 1 (.slice ad' vs.length cap') vs.length cs:=Zay rl.own fun q hq=>hb4.block q (rl.own.lt q hq).2
    have hsz4:w.heap.size≤w4.heap.size:=Nat.le_trans hsz hb4.size
    have STH:Hid (∀w6 v' o,_):=fun w6 v' o=>RL.step (w6:=w6) (v':=v') (o:=o) rl hb4 hv
    have HM:=GO.out _ ho
    clear CE NO GO hv ho rl
    go_wp2_with (at_builtin;obtain⟨i0,hi,hz0,hz1,hz2⟩:=info_parts Tryz.infoVVal;refine wpList_append_own_at _ rfl _ _ 82 rfl w.heap.size 81 i0 .nilIface 1 16 underlying82 hi hz0 hz1 hz2 rfl (by decide) _ _ _ rfl (own4.alloc _) ⟨w4.heap.size,0,none⟩ 1 1 [.iface tv xv] rfl rfl (cell_one_new _ _ _) (fun x hx=>by simp at hx;subst hx;rfl) (by unfold maxLen;omega) (by omega) (by simp;omega) ?_;intro v' w6 hown' hgrow hnil hob;clear hi hz0 hz1 hz2)
    go_roundg (bs.length-(j+1))
    case measure=>omega
    case rel =>
     obtain⟨ad2,cap2,rfl,rl2⟩:=STH.out _ _ _ hown' hgrow hob
     exact⟨j+1,_,_,ad2,cap2,rfl,by go_num,rfl,by omega,(by show _=_;have:=hvl.out;simp;omega),rl2,HM⟩
   ·have FIN:Hid (∀X u nb i,Below w4.heap.size w4 X→Zwn w R (.returned (.tuple #[u,inV nb i z b])) X):=fun X u nb i hX=>⟨(rl.bel.trans (hb4.mono rl.bel.size)).trans (hX.mono (Nat.le_trans rl.bel.size hb4.size)),Or.inr ⟨NO.out ho,_,_,Or.inr ⟨_,_,_,_,rfl⟩,rfl⟩⟩
    clear CE NO GO ho rl
    go_wp2_with fail
    go_ret2
    exact FIN.out _ _ _ _ (by first | exact Below.refl _ _ | exact Zab _ _)
  ·have hjj:j=bs.length:=by omega
   have hji:¬ (j:Int)<((bs.length:Nat):Int):=by omega
   have HO:Hid (R=some vs):=by
    rw[HR.out]
    exact Znq (by rw[List.length_map,←hjj,←HR.out];exact hP.out)
   clear hcell hbz hP
   subst hjj
   go_wp2_with fail
   go_ret2
   exact ra_ok rl HO.out
def Zzs (E:Nat→Addr)(c p:Nat)(f:Value):Prop:=(c=0∧p=0∧f=.nilIface)∨(c=8∧p=0∧FltW f)∨(1≤c∧c≤7∧f=Za2 p (E c))
def Zpv (E:Nat→Addr)(R:List UInt8×Nat×Nat)(w:World)(e:Ending)(w':World):Prop :=
 Below w.heap.size w w'∧∃f,e=.returned (.tuple #[.string ⟨R.1.toArray⟩,f])∧Zzs E R.2.1 R.2.2 f
theorem Z0w {E:Nat→Addr}{R:List UInt8×Nat×Nat}{w w':World}{f:Value}(hR:R=([],8,0))(hb:Below w.heap.size w w')(hf:FltW f):Zpv E R w (.returned (.tuple #[.string ⟨#[]⟩,f])) w':=by
 subst hR
 exact⟨hb,f,rfl,Or.inr (Or.inl ⟨rfl,rfl,hf⟩)⟩
theorem Zeb.below {w w':World}{sv:Value}{bs:List ByteArray}(h:Zeb w sv bs)(hb:Below w.heap.size w w'):Zeb w' sv bs:=by
 obtain⟨ad,cap,h1,h2,h3,h4,h5⟩:=h
 exact⟨ad,cap,h1,h2,h3,h4,fun i hi=>by
  obtain⟨g,o,e,hc⟩:=h5 i hi
  exact⟨g,o,e,Below.cellv hb hc⟩⟩
theorem Zii.w {f:Value}(h:Zii f):FltW f:=Or.inl h
theorem Zlk (s nb:ByteArray)(sv:Value)(bs:List ByteArray)(w:World)(E:Nat→Addr)(hE:Errs w E)(hG:Zzx w)(hN:Zl4 w)(h15:15≤w.heap.size){ts:List Tok}(hs:s.size≤maxLen)(hts:s.size≤2000→Za4 s.data.toList 0 ts)(ha:Zeb w sv bs)(hbl:bs.length≤2000000)(hbz:∀b∈bs,b.size≤1000000000000):
  Calls prog 26 #[.string s,.string nb,sv] w (Zpv E (Zgd s.size ts nb.data.toList (bs.map (·.data.toList))) w):=by
 have CR:=Zwj s w E hE h15 hs hts
 obtain⟨RR,hRR⟩:∃RR,RR=Zgd s.size ts nb.data.toList (bs.map (·.data.toList)):=⟨_,rfl⟩
 rw[←hRR]
 have ha':=ha
 obtain⟨ad,cap,rfl,hc1,hc2,hbs,hcell⟩:=ha'
 unfold maxLen at hc2
 cases hA:Zbx s.size ts with
 | some x =>
  obtain⟨c,p⟩:=x
  obtain⟨h1,h7⟩:=Zoo hA
  have e2:RR=([],c,p):=by rw[hRR];unfold Zgd;rw[hA]
  have cr2:Calls prog 54 #[.string s] w fun e w'=>(∃ad n cap,e=.returned (.tuple #[.agg #[.slice ad n cap],Za2 p (E c)]))∧Below w.heap.size w w':=CR.mono fun e w' ⟨⟨ad,n,cap,h,_⟩,hb⟩=>⟨⟨ad,n,cap,by rw[h,hA];rfl⟩,hb⟩
  have FIN:Hid (∀X,Below w.heap.size w X→Zpv E RR w (.returned (.tuple #[.string ⟨#[]⟩,Za2 p (E c)])) X):=fun X hX=>by
   rw[e2]
   exact⟨hX,_,rfl,Or.inr (Or.inr ⟨h1,h7,rfl⟩)⟩
  generalize E c=aE at *
  clear CR hRR e2 hcell ha hE hts hA
  go_enter func26,ntmps26
  go_wp2_with (go_at_call 54;refine cr2.mono ?_;rintro e w1 ⟨⟨rad,rn,rcap,rfl⟩,hb1⟩)
  go_ret2
  exact FIN.out _ (by first | exact hb1 | exact hb1.alloc hb1.size _)
 | none =>
  have hs2:s.size≤2000:=by
   unfold Zbx at hA
   split at hA
   ·cases hA
   ·omega
  have hC:chk s.size (Zb7 (ts.length+1) ts)=none:=by
   unfold Zbx at hA
   rw[if_neg (by omega)] at hA
   exact hA
  cases hR:Zb7 (ts.length+1) ts with
  | err c a=>rw[hR] at hC;simp only[chk] at hC;cases hC
  | ok fns rest =>
   rw[hR] at hC
   have hP:Ze1 fns:=Zs1 (hts hs2) (by rw[Zax];omega) hR hC
   have hU:Z3x fns:=(Zp0 fns [] (by
    simp only[chk] at hC
    split at hC
    ·cases hC
    ·assumption)).2
   have E2:Aside (RR=match Za6 (bs.map (·.data.toList)) with | none=>([],8,0) | some vs=>match Zf4 fns nb.data.toList vs with | none=>([],8,0) | some v=>(wrV v,0,0)):=by
    show _=_
    rw[hRR]
    unfold Zgd
    rw[hA,hR]
    rfl
   have cr2:Calls prog 54 #[.string s] w fun e w'=>(∃rad rn rcap,e=.returned (.tuple #[.agg #[.slice rad rn rcap],.nilIface])∧Zfs w' (w.heap.size≤·) (.slice rad rn rcap) fns)∧Below w.heap.size w w':=CR.mono fun e w' ⟨⟨ad,n,cap,h,h2⟩,hb⟩=>⟨⟨ad,n,cap,by rw[h,hA];rfl,h2 fns rest hR hA⟩,hb⟩
   have hbi:((bs.length:Nat):Int)≤2000000:=by omega
   clear CR hRR hE hts hA hC hR
   go_enter func26,ntmps26
   go_wp2_with (go_at_call 54;refine cr2.mono ?_;rintro e w1 ⟨⟨rad,rn,rcap,rfl,hpr⟩,hb1⟩)
   have bX:Below w.heap.size w (w1.alloc (Obj.cells #[.slice rad rn rcap] 79)):=hb1.alloc hb1.size _
   have cb:(w1.alloc (Obj.cells #[.slice rad rn rcap] 79)).cell? ⟨w1.heap.size,0,none⟩=some (.slice rad rn rcap):=by simp
   have hpX:=hpr.below (Zab w1 (Obj.cells #[.slice rad rn rcap] 79))
   have CF:=Zti (mb:=(w1.alloc (Obj.cells #[.slice rad rn rcap] 79)).heap.size) ((hpX.keep (w':=w1.alloc (Obj.cells #[.slice rad rn rcap] 79)) fun _ _ _=>rfl).weaken fun q hq=>hq.2) nb bs.length (by omega)
   generalize w1.alloc (Obj.cells #[.slice rad rn rcap] 79)=X at *
   have CA:Hid (∀Z,Below X.heap.size X Z→Calls prog 61 #[.slice ad bs.length cap] Z (Zwn Z (Za6 (bs.map (·.data.toList))))):=fun Z hZ=>by
    have hwZ:=bX.trans (hZ.mono bX.size)
    exact Zu6 _ bs Z (ha.below hwZ) hbl hbz (hN.below hwZ) (Nat.le_trans h15 hwZ.size)
   have CN:Hid (∀(Z:World) (D0:Nat→Prop) (vs:List PV) (cs:List Value) (sl:Value),Below X.heap.size X Z→Zar Z D0 81 1 sl vs.length cs→VLs Z D0 vs cs→Za6 (bs.map (·.data.toList))=some vs→Calls prog 62 #[.agg #[.slice rad rn rcap],.string nb,sl] Z (Zcx (fun _=>True) Z (Zf4 fns nb.data.toList vs))):=fun Z D0 vs cs sl hZ h1 h2 h3=>by
    have hwZ:=bX.trans (hZ.mono bX.size)
    obtain⟨g1,g2⟩:=Ze6 h3
    rw[List.length_map] at g1
    exact Z1u hP hU Z _ D0 nb vs cs sl rad rn rcap (hpX.below hZ) (hG.below hwZ) (Nat.le_trans h15 hwZ.size) h1 h2 g2 (by omega)
   have CW:Hid (∀(Z:World) (v:PV) (x:Value) (vs:List PV),Below X.heap.size X Z→VL Z (fun _=>True) v x→Za6 (bs.map (·.data.toList))=some vs→Zf4 fns nb.data.toList vs=some v→Calls prog 32 #[x] Z fun e w'=>e=.returned (.string ⟨(wrV v).toArray⟩)∧Zpv E RR w (.returned (.tuple #[.string ⟨(wrV v).toArray⟩,.nilIface])) w'):=fun Z v x vs hZ hv h1 h2=>by
    have hwZ:=bX.trans (hZ.mono bX.size)
    have hf:=Zx4 hP (Ze6 h1).2 h2
    refine (Z3u _ v x Z hv hf.1 (by have:=hf.2;omega) (hN.below hwZ).p10).mono fun e w' ⟨g1,g2⟩=>⟨g1,hwZ.trans (g2.mono hwZ.size),.nilIface,?_,?_⟩
    ·rw[E2.out,h1]
     simp only[h2]
    ·rw[E2.out,h1]
     simp only[h2]
     exact Or.inl ⟨rfl,rfl,rfl⟩
   have N1:Hid (findF fns nb.data.toList bs.length=none→RR=([],8,0)):=fun h=>by
    rw[E2.out]
    cases hv:Za6 (bs.map (·.data.toList)) with
    | none=>rfl
    | some vs =>
     have hl:=(Ze6 hv).1
     rw[List.length_map] at hl
     have:Zf4 fns nb.data.toList vs=none:=by
      rw[Zqy hU]
      unfold Zy8
      rw[hl,h]
      rfl
     simp only[this]
   have N2:Hid (Za6 (bs.map (·.data.toList))=none→RR=([],8,0)):=fun h=>by rw[E2.out,h]
   have N3:Hid (∀vs,Za6 (bs.map (·.data.toList))=some vs→Zf4 fns nb.data.toList vs=none→RR=([],8,0)):=fun vs h1 h2=>by rw[E2.out,h1];simp only[h2]
   clear hpX hpr hcell E2 cr2 ha hb1 hbs hbz
   refine CF.mono ?_
   rintro e w2 ⟨hb2,⟨f,fnb,fa,fad,fcap,fbs,ftb,fyb,ho,_,rfl,_,_,_⟩ | ⟨ho,rfl⟩⟩
   ·clear CF ho N1
    go_wp2_with fail
    have bZ:=hb2.alloc hb2.size (Obj.cells #[.string fnb,.int .i64 ((fa:Nat):Int),.slice fad fbs.length fcap,.iface ftb fyb] 143)
    refine (CA.out _ bZ).mono ?_
    rintro e w3 ⟨hb3,⟨vs,sl,cs,hV,rfl,hseg,hvs⟩ | ⟨hV,u,fl,hfl,rfl⟩⟩
    ·have bX3:Below X.heap.size X w3:=bZ.trans (hb3.mono bZ.size)
     have cb3:=Below.cellv bX3 cb
     have C4:=CN.out w3 _ vs cs sl bX3 hseg hvs hV
     obtain⟨sad,scap,rfl⟩:=hseg.slice
     clear CA CN hseg hvs N2 bZ hb3
     go_wp2_with fail
     refine C4.mono ?_
     rintro e w4 ⟨hb4,⟨v,x,hO,rfl,hv⟩ | ⟨hO,u,fl,hfl,rfl⟩⟩
     ·have bX4:=bX3.trans (hb4.mono bX3.size)
      have C5:=CW.out w4 v x vs bX4 hv hV hO
      obtain⟨tx,yx,rfl⟩:=hv.iface
      clear CW C4 hv hO N3
      generalize wrV v=T at *
      go_wp2_with (go_at_call 32;refine C5.mono ?_;rintro e w5 ⟨rfl,hp5⟩)
      go_ret2
      exact hp5
     ·have HO:Hid (RR=([],8,0)):=N3.out _ hV hO
      have HF:Hid (Zii fl):=hfl
      obtain⟨tf,yf,rfl⟩:=hfl.iface
      have bX4:=bX3.trans (hb4.mono bX3.size)
      have bw4:=bX.trans (bX4.mono bX.size)
      clear CW C4 hO N3 hfl
      go_wp2_with fail
      go_ret2
      exact Z0w HO.out bw4 HF.out.w
    ·have HO:Hid (RR=([],8,0)):=N2.out hV
     have HF:Hid (FltW fl):=hfl
     obtain⟨tf,yf,rfl⟩:=hfl.iface
     have bX3:Below X.heap.size X w3:=bZ.trans (hb3.mono bZ.size)
     have bw3:=bX.trans (bX3.mono bX.size)
     clear CA CN CW N2 N3 hV hfl
     go_wp2_with fail
     go_ret2
     exact Z0w HO.out bw3 HF.out
   ·have HO:Hid (RR=([],8,0)):=N1.out ho
    have bw2:=bX.trans (hb2.mono bX.size)
    clear CF CA CN CW N1 N2 N3 ho
    go_wp2_with fail
    go_ret2
    exact Z0w HO.out (by first | exact bw2 | exact bw2.alloc bw2.size _) (Zb9 _).w
end Go.Proofs.YtliapghpeoaonaaGreatDoor
