/-
  The program: the machine that reckons; reckon out of carryOut.
-/
import Derived.Test.YtifhgjpglicjbaaGreatDoorFrN
import Derived.Test.YtifhgjpglicjbaaGreatDoorVaI
import Derived.Test.YtifhgjpglicjbaaGreatDoorRd
set_option maxHeartbeats 4000000
set_option maxRecDepth 8000
namespace Go.Proofs.YtifhgjpglicjbaaGreatDoor
open Go.Proofs.Tryz
open Go.RowKit Go.Lib
attribute [local go_sem ↓] Go.wp_at_zero Go.wp_at_succ
structure Mach (w:World)(mb:Nat)(fns:List Fn)(k:Nat):Prop where
 blk:∃(ad:Option Addr) (n cap:Nat) (st:Int),w.heap[mb]?=some (.cells #[.slice ad n cap,.int .i64 st] 127)∧st+(k:Int)=20000∧ProgAt w (·<mb) (.slice ad n cap) fns
 hk:k≤20000
 flt:FltG w
 hm:15≤mb
theorem Mach.lt {w:World}{mb k:Nat}{fns:List Fn}(h:Mach w mb fns k):mb<w.heap.size:=by
 obtain⟨_,_,_,_,hb,_⟩:=h.blk
 exact block_lt hb
theorem Mach.below {w w':World}{mb k:Nat}{fns:List Fn}(h:Mach w mb fns k)(hb:Below w.heap.size w w'):Mach w' mb fns k:=by
 obtain⟨ad,n,cap,st,h1,h2,h3⟩:=h.blk
 exact⟨⟨ad,n,cap,st,by rw[hb.block mb (block_lt h1)];exact h1,h2,h3.below hb⟩,h.hk,h.flt.below hb,h.hm⟩
theorem Mach.same {w w':World}{mb k:Nat}{fns:List Fn}(h:Mach w mb fns k)(hs:∀g,g≤mb→w'.heap[g]?=w.heap[g]?):Mach w' mb fns k:=by
 obtain⟨ad,n,cap,st,h1,h2,h3⟩:=h.blk
 have hm:=h.hm
 refine⟨⟨ad,n,cap,st,by rw[hs mb (Nat.le_refl _)];exact h1,h2,?_⟩,h.hk,?_,hm⟩
 ·exact (h3.keep fun g hg _=>hs g (Nat.le_of_lt hg)).weaken fun g hg=>hg.1
 ·obtain⟨g1,a,g2⟩:=h.flt
  exact⟨(World.cell?_of_block (w:=w) (hs 9 (by omega))).trans g1,a,(World.cell?_of_block (w:=w) (hs 0 (by omega))).trans g2⟩
theorem Mach.facts {w:World}{mb k:Nat}{fns:List Fn}(h:Mach w mb fns k):∃(ad:Option Addr) (n cap:Nat) (st:Int),st+(k:Int)=20000∧w.cell? ⟨mb,0,none⟩=some (.slice ad n cap)∧w.cell? ⟨mb,1,none⟩=some (.int .i64 st)∧(∀j,w.frozen? ⟨mb,j,none⟩=false)∧mb<w.heap.size∧ProgAt w (·<mb) (.slice ad n cap) fns∧∀st':Int,∀k':Nat,st'+(k':Int)=20000→k'≤20000→Mach (w.setCell ⟨mb,1,none⟩ (.int .i64 st')) mb fns k':=by
 obtain⟨ad,n,cap,st,hb,hs,hp⟩:=h.blk
 have hm:=h.hm
 refine⟨ad,n,cap,st,hs,?_,?_,fun j=>?_,block_lt hb,hp,fun st' k' e hk'=>⟨⟨ad,n,cap,st',?_,e,?_⟩,hk',?_,hm⟩⟩
 ·unfold World.cell?;rw[hb];rfl
 ·unfold World.cell?;rw[hb];rfl
 ·unfold World.frozen?;rw[hb];rfl
 ·rw[set_block hb];rfl
 ·exact (hp.keep fun k hk _=>Below.heap_setCell w ⟨mb,1,none⟩ _ k (by have hk:k<mb:=hk;show k≠mb;omega)).weaken fun k hk=>hk.1
 ·exact h.flt.touch ((Touch.refl (·=mb) w).setCell (p:=⟨mb,1,none⟩) (Or.inl rfl) _) hm
def rkPost (D:Nat→Prop)(mb:Nat)(fns:List Fn)(o:Option (PV×Nat))(w:World)(e:Ending)(w':World):Prop :=
 Touch (·=mb) w w'∧((∃v x k',o=some (v,k')∧e=.returned (.tuple #[x,.nilIface])∧VL w' D v x∧Mach w' mb fns k')∨(o=none∧∃u f,FltV f∧e=.returned (.tuple #[u,f])))
def crPost (D:Nat→Prop)(mb:Nat)(fns:List Fn)(o:Option (PV×Nat))(w:World)(e:Ending)(w':World):Prop :=
 Touch (·=mb) w w'∧((∃v x k',o=(if wtV v≤600 then some (v,k') else none)∧wtV v≤100000000∧e=.returned (.tuple #[x,.nilIface])∧VL w' D v x∧Mach w' mb fns k')∨(o=none∧∃u f,FltV f∧e=.returned (.tuple #[u,f])))
theorem rk_ok {D:Nat→Prop}{mb:Nat}{fns:List Fn}{o:Option (PV×Nat)}{w w':World}{v:PV}{x:Value}{k':Nat}(ho:o=some (v,k'))(ht:Touch (·=mb) w w')(hv:VL w' D v x)(hM:Mach w' mb fns k'):rkPost D mb fns o w (.returned (.tuple #[x,.nilIface])) w':=⟨ht,Or.inl ⟨v,x,k',ho,rfl,hv,hM⟩⟩
theorem rk_no {D:Nat→Prop}{mb:Nat}{fns:List Fn}{o:Option (PV×Nat)}{w w':World}{u f:Value}(ho:o=none)(ht:Touch (·=mb) w w')(hf:FltV f):rkPost D mb fns o w (.returned (.tuple #[u,f])) w':=⟨ht,Or.inr ⟨ho,u,f,hf,rfl⟩⟩
theorem cr_ok {D:Nat→Prop}{mb:Nat}{fns:List Fn}{o:Option (PV×Nat)}{w w':World}{v:PV}{x:Value}{k':Nat}(ho:o=(if wtV v≤600 then some (v,k') else none))(hw:wtV v≤100000000)(ht:Touch (·=mb) w w')(hv:VL w' D v x)(hM:Mach w' mb fns k'):crPost D mb fns o w (.returned (.tuple #[x,.nilIface])) w':=⟨ht,Or.inl ⟨v,x,k',ho,hw,rfl,hv,hM⟩⟩
theorem cr_no {D:Nat→Prop}{mb:Nat}{fns:List Fn}{o:Option (PV×Nat)}{w w':World}{u f:Value}(ho:o=none)(ht:Touch (·=mb) w w')(hf:FltV f):crPost D mb fns o w (.returned (.tuple #[u,f])) w':=⟨ht,Or.inr ⟨ho,u,f,hf,rfl⟩⟩
theorem cr_of_rk {D:Nat→Prop}{mb:Nat}{fns:List Fn}{o:Option (PV×Nat)}{w w1 w':World}{e:Ending}(ht:Touch (·=mb) w w1)(hf:∀v k',o=some (v,k')→wtV v≤600)(h:rkPost D mb fns o w1 e w'):crPost D mb fns o w e w':=by
 obtain⟨a,⟨v,x,k',ho,he,hv,hM⟩ | ⟨ho,u,f,hff,he⟩⟩:=h
 ·have:=hf v k' ho
  exact⟨ht.trans a,Or.inl ⟨v,x,k',by rw[if_pos this];exact ho,by omega,he,hv,hM⟩⟩
 ·exact⟨ht.trans a,Or.inr ⟨ho,u,f,hff,he⟩⟩
theorem rk_tup {D:Nat→Prop}{mb:Nat}{fns:List Fn}{o:Option (PV×Nat)}{w w':World}{e:Ending}(h:rkPost D mb fns o w e w'):∃u f,e=.returned (.tuple #[u,f]):=by
 obtain⟨_,⟨_,_,_,_,h,_⟩ | ⟨_,u,f,_,h⟩⟩:=h
 ·exact⟨_,_,h⟩
 ·exact⟨_,_,h⟩
theorem cr_tup {D:Nat→Prop}{mb:Nat}{fns:List Fn}{o:Option (PV×Nat)}{w w':World}{e:Ending}(h:crPost D mb fns o w e w'):∃u f,e=.returned (.tuple #[u,f]):=by
 obtain⟨_,⟨_,_,_,_,_,h,_⟩ | ⟨_,u,f,_,h⟩⟩:=h
 ·exact⟨_,_,h⟩
 ·exact⟨_,_,h⟩
def PlaceAt (x:Value):Prop:=∃(t:TypeId) (y:Value) (a:Int),x=.iface t y∧∀w,(Go.method 533 t y "Place").run prog w=.ok (138,.int .i64 a) w
theorem pl_tNumber (a b:Value)(w:World):(Go.method 533 306 (.agg #[a,b]) "Place").run prog w=.ok (138,a) w:=by kernel_rfl
theorem pl_tText (a b:Value)(w:World):(Go.method 533 308 (.agg #[a,b]) "Place").run prog w=.ok (138,a) w:=by kernel_rfl
theorem pl_tVariable (a b:Value)(w:World):(Go.method 533 277 (.agg #[a,b]) "Place").run prog w=.ok (138,a) w:=by kernel_rfl
theorem pl_tList (a b:Value)(w:World):(Go.method 533 288 (.agg #[a,b]) "Place").run prog w=.ok (138,a) w:=by kernel_rfl
theorem pl_tCall (a b c d:Value)(w:World):(Go.method 533 282 (.agg #[a,b,c,d]) "Place").run prog w=.ok (138,a) w:=by kernel_rfl
theorem pl_tMap (a b c d:Value)(w:World):(Go.method 533 286 (.agg #[a,b,c,d]) "Place").run prog w=.ok (138,a) w:=by kernel_rfl
theorem pl_tLet (a b c d e:Value)(w:World):(Go.method 533 279 (.agg #[a,b,c,d,e]) "Place").run prog w=.ok (138,a) w:=by kernel_rfl
theorem pl_tIf (a b c d:Value)(w:World):(Go.method 533 290 (.agg #[a,b,c,d]) "Place").run prog w=.ok (138,a) w:=by kernel_rfl
theorem pl_tSet (a b c d:Value)(w:World):(Go.method 533 292 (.agg #[a,b,c,d]) "Place").run prog w=.ok (138,a) w:=by kernel_rfl
theorem pl_tLen (a b:Value)(w:World):(Go.method 533 297 (.agg #[a,b]) "Place").run prog w=.ok (138,a) w:=by kernel_rfl
theorem pl_tBinary (a b c d:Value)(w:World):(Go.method 533 295 (.agg #[a,b,c,d]) "Place").run prog w=.ok (138,a) w:=by kernel_rfl
theorem RepE.place {w:World}{D:Nat→Prop}{e:Ex}{x:Value}(h:RepE w D e x):PlaceAt x:=by
 cases e with
 | num b=>rw[RepE] at h;obtain⟨sp,rfl⟩:=h;exact⟨_,_,_,rfl,fun w=>pl_tNumber _ _ w⟩
 | txt b=>rw[RepE] at h;obtain⟨sp,bb,_,rfl⟩:=h;exact⟨_,_,_,rfl,fun w=>pl_tText _ _ w⟩
 | var n a=>rw[RepE] at h;obtain⟨nb,_,rfl⟩:=h;exact⟨_,_,_,rfl,fun w=>pl_tVariable _ _ w⟩
 | form wd n a ks =>
  rw[RepE] at h
  obtain⟨sp,vs,_,h2⟩:=h
  rcases h2 with ⟨_,_,rfl,_⟩ | ⟨_,_,_,_,_,rfl,_⟩ | ⟨_,_,_,_,_,_,rfl⟩ | ⟨_,_,_,_,_,_,_,rfl⟩ | ⟨_,_,_,_,_,rfl⟩ | ⟨_,_,_,_,_,rfl⟩ | ⟨_,_,_,rfl⟩ | ⟨_,_,_,_,_,_,rfl⟩
  ·exact⟨_,_,_,rfl,fun w=>pl_tList _ _ w⟩
  ·exact⟨_,_,_,rfl,fun w=>pl_tCall _ _ _ _ w⟩
  ·exact⟨_,_,_,rfl,fun w=>pl_tMap _ _ _ _ w⟩
  ·exact⟨_,_,_,rfl,fun w=>pl_tLet _ _ _ _ _ w⟩
  ·exact⟨_,_,_,rfl,fun w=>pl_tIf _ _ _ _ w⟩
  ·exact⟨_,_,_,rfl,fun w=>pl_tSet _ _ _ _ w⟩
  ·exact⟨_,_,_,rfl,fun w=>pl_tLen _ _ w⟩
  ·exact⟨_,_,_,rfl,fun w=>pl_tBinary _ _ _ _ w⟩
theorem spplace_any (a:Int)(w:World):Calls prog 138 #[.int .i64 a] w fun e w'=>e=.returned (.int .i64 a)∧w'=w:=by
 go_enter func138,ntmps138
 go_wp2
 go_ret
 exact⟨rfl,rfl⟩
theorem reckon_steps (D:Nat→Prop){mb:Nat}{fns:List Fn}{w:World}(hM:Mach w mb fns 0)(x y:Value)(hp:PlaceAt x)(hy:∃o,y=.pointer o):
  Calls prog 76 #[.pointer (some ⟨mb,0,none⟩),x,y] w (rkPost D mb fns none w):=by
 obtain⟨o,rfl⟩:=hy
 obtain⟨t,xx,a,rfl,mP⟩:=hp
 obtain⟨ad,n,cap,st,hst,c0,c1,cf,lr,_,_⟩:=hM.facts
 have hst2:st=20000:=by omega
 subst hst2
 have hG:=hM.flt
 have CP:Hid (∀X b,FltG X→Calls prog 110 #[.int .i64 a,whyB b] X _):=fun X b hX=>placed_any a _ X (flt_why b) hX
 have CQ:=fun X=>spplace_any a X
 have FIN:Hid (∀X u f,Touch (·=mb) w X→FltV f→rkPost D mb fns none w (.returned (.tuple #[u,f])) X):=fun X u f h1 h2=>rk_no rfl h1 h2
 clear hM
 go_enter func76,ntmps76
 go_wp2_with (first
  |(go_at_call 138;refine (CQ _).mono ?_;rintro e w1 ⟨rfl,rfl⟩)
  |(go_at_call 110;refine (CP.out _ _ hG).mono ?_;rintro e w2 ⟨hb2,z',b',rfl⟩))
 go_ret2
 exact FIN.out _ _ _ (Touch.of_below hb2) (Or.inr ⟨_,_,rfl⟩)
theorem FltV.iface {f:Value}(h:FltV f):∃t y,f=.iface t y:=by
 rcases h with ⟨b,rfl⟩ | ⟨z,b,rfl⟩
 ·exact⟨_,_,rfl⟩
 ·exact⟨_,_,rfl⟩
theorem reckon_of (D:Nat→Prop){mb k:Nat}{fns:List Fn}{w:World}(hM:Mach w mb fns (k+1))(x y:Value)(hp:PlaceAt x)(hy:∃o,y=.pointer o)(o:Option (PV×Nat))
  (CC:∀X,Touch (·=mb) w X→Mach X mb fns k→Calls prog 111 #[.pointer (some ⟨mb,0,none⟩),x,y] X (crPost D mb fns o X)) :
  Calls prog 76 #[.pointer (some ⟨mb,0,none⟩),x,y] w (rkPost D mb fns o w):=by
 obtain⟨oy,rfl⟩:=hy
 obtain⟨t,xx,a,rfl,mP⟩:=hp
 obtain⟨ad,n,cap,st,hst,c0,c1,cf,lr,_,hset⟩:=hM.facts
 have hk:=hM.hk
 have hsa:0≤st:=by omega
 have hsb:st≤19999:=by omega
 have f1:=cf 1
 have M1:=hset (st+1) k (by omega) (by omega)
 have T1:Touch (·=mb) w (w.setCell ⟨mb,1,none⟩ (.int .i64 (st+1))):=(Touch.refl (·=mb) w).setCell (p:=⟨mb,1,none⟩) (Or.inl rfl) _
 have C1:=CC _ T1 M1
 have hG:=M1.flt
 have hm:=hM.hm
 have CP:Hid (∀X f,FltG X→FltV f→Calls prog 110 #[.int .i64 a,f] X _):=fun X f hX hf=>placed_any a f X hf hX
 have CQ:=fun X=>spplace_any a X
 have FIN:Hid (∀X Y u z b,o=none→Touch (·=mb) w X→Below X.heap.size X Y→rkPost D mb fns o w (.returned (.tuple #[u,atV2 z b])) Y):=fun X Y u z b h0 h1 h2=>rk_no h0 (h1.below_at h2) (Or.inr ⟨z,b,rfl⟩)
 clear hM hset CC hst cf M1
 go_enter func76,ntmps76
 go_wp2_with fail
 refine C1.mono ?_
 rintro e w1 ⟨ht1,⟨v,x1,k',ho,hwt,rfl,hv,hM1⟩ | ⟨ho,u,f,hf,rfl⟩⟩
 ·have T2:=T1.trans ht1
  have CW:=fun X (hX:Below w1.heap.size w1 X)=>weigh_any D v x1 X (hv.below hX) (by omega)
  have CW0:=CW w1 (Below.refl _ _)
  have hG1:=hM1.flt
  obtain⟨tx,yx,rfl⟩:=hv.iface
  by_cases hw:wtV v≤600
  ·rw[if_pos hw] at ho
   have FIN2:Hid (∀X,Below w1.heap.size w1 X→rkPost D mb fns o w (.returned (.tuple #[.iface tx yx,.nilIface])) X):=fun X hX=>rk_ok ho (T2.below_at hX) (hv.below hX) (hM1.below hX)
   have hwi:((wtV v:Nat):Int)≤600:=by omega
   clear hv hM1 ho C1 CW CP FIN
   go_wp2_with (go_at_call 112;refine CW0.mono ?_;rintro e w2 ⟨rfl,hb2⟩)
   go_ret2
   exact FIN2.out _ hb2
  ·rw[if_neg hw] at ho
   have hwi:(600:Int)<((wtV v:Nat):Int):=by omega
   have HO:Hid (o=none):=ho
   clear hv hM1 ho C1 CW
   go_wp2_with (first
    |(go_at_call 112;refine CW0.mono ?_;rintro e w2 ⟨rfl,hb2⟩)
    |(go_at_call 138;refine (CQ _).mono ?_;rintro e w3 ⟨rfl,rfl⟩)
    |(go_at_call 110;refine (CP.out _ _ (hG1.below hb2) (flt_why _)).mono ?_;rintro e w4 ⟨hb4,z',b',rfl⟩))
   go_ret2
   exact FIN.out _ _ _ _ _ HO.out (T2.below_at hb2) hb4
 ·have T2:=T1.trans ht1
  have hG1:=hG.touch ht1 hm
  have HF:Hid (FltV f):=hf
  have HO:Hid (o=none):=ho
  obtain⟨tf,yf,rfl⟩:=hf.iface
  clear hf ho C1
  go_wp2_with (first
   |(go_at_call 138;refine (CQ _).mono ?_;rintro e w3 ⟨rfl,rfl⟩)
   |(go_at_call 110;refine (CP.out _ _ hG1 HF.out).mono ?_;rintro e w4 ⟨hb4,z',b',rfl⟩))
  go_ret2
  exact FIN.out _ _ _ _ _ HO.out T2 hb4
structure XPo (fns:List Fn)(s:Env)(e:Ex):Prop where
 fine:FineS s
 lit:LitE e
 wf:WfE e
 sz:szE e≤7000
 sc:∃sc,ScE fns sc e
def RDo (mb:Nat)(fns:List Fn)(E:Nat→Env→Ex→Option (PV×Nat))(k0:Nat):Prop :=
 ∀(X:World) (D:Nat→Prop) (k:Nat) (e:Ex) (x:Value) (s:Env) (y:Value),k≤k0→¬ D mb→(∀g,X.heap.size≤g→D g)→Mach X mb fns k→RepE X (·<mb) e x→SC X D s y→XPo fns s e →
  Calls prog 76 #[.pointer (some ⟨mb,0,none⟩),x,y] X (rkPost D mb fns (E k s e) X)
def alPost (D:Nat→Prop)(mb:Nat)(fns:List Fn)(o:Option (List PV×Nat))(w:World)(e:Ending)(w':World):Prop :=
 Touch (·=mb) w w'∧((∃vs sl cs k',o=some (vs,k')∧e=.returned (.tuple #[sl,.nilIface])∧SegAt w' D 74 1 sl vs.length cs∧VLs w' D vs cs∧Mach w' mb fns k')∨(o=none∧∃f,FltV f∧e=.returned (.tuple #[.slice none 0 0,f])))
def addL (us:List PV):Option (List PV×Nat)→Option (List PV×Nat)
 | none=>none
 | some (vs,k)=>some (us++vs,k)
theorem addL_nil (o:Option (List PV×Nat)):addL [] o=o:=by
 cases o with
 | none=>rfl
 | some x=>rfl
theorem evL_noneP {E:Nat→Ex→Option (PV×Nat)}{k:Nat}{e:Ex}{es:List Ex}(h:E k e=none):evL E k (e::es)=none:=by simp only[evL,h]
theorem evL_someP {E:Nat→Ex→Option (PV×Nat)}{k k1:Nat}{e:Ex}{es:List Ex}{v:PV}(us:List PV)(h:E k e=some (v,k1)):addL us (evL E k (e::es))=addL (us++[v]) (evL E k1 es):=by
 simp only[evL,h]
 cases evL E k1 es with
 | none=>rfl
 | some x=>simp[addL]
theorem RepE.touch {w w':World}{mb:Nat}{e:Ex}{x:Value}(h:RepE w (·<mb) e x)(ht:Touch (·=mb) w w'):RepE w' (·<mb) e x:=(h.keep fun k hk hlt=>ht.block k hlt (by have hk:k<mb:=hk;show ¬ k=mb;omega)).weaken fun k hk=>hk.1
theorem RepEs.touch {w w':World}{mb:Nat}{e:List Ex}{x:List Value}(h:RepEs w (·<mb) e x)(ht:Touch (·=mb) w w'):RepEs w' (·<mb) e x:=(h.keep fun k hk hlt=>ht.block k hlt (by have hk:k<mb:=hk;show ¬ k=mb;omega)).weaken fun k hk=>hk.1
structure AL (D:Nat→Prop)(w wr:World)(mb:Nat)(fns:List Fn)(k:Nat)(ad:Option Addr)(cap:Nat)(vs:List PV)(cs:List Value):Prop where
 own:wr.ownsRow w.heap.size 74 1 (.slice ad vs.length cap) vs.length cs
 val:VLs wr (fun b=>D b∧some b≠(Value.slice ad vs.length cap).ownBlock) vs cs
 tch:Touch (·=mb) w wr
 mch:Mach wr mb fns k
theorem AL.row {D:Nat→Prop}{w wr:World}{mb k:Nat}{fns:List Fn}{ad:Option Addr}{cap:Nat}{vs:List PV}{cs:List Value}(h:AL D w wr mb fns k ad cap vs cs):∀g,(Value.slice ad vs.length cap).ownBlock=some g→w.heap.size≤g∧g<wr.heap.size:=fun g e=>h.own.lt g e
theorem AL.step {D:Nat→Prop}{w wr w4 w6:World}{mb k k4:Nat}{fns:List Fn}{ad:Option Addr}{cap:Nat}{vs:List PV}{cs:List Value}{o:Obj}{v:PV}{x v':Value}(h:AL D w wr mb fns k ad cap vs cs)(hD:¬ D mb)(hr:mb<w.heap.size)(ht:Touch (·=mb) wr w4)(hM:Mach w4 mb fns k4)
  (hv:VL w4 (fun b=>D b∧some b≠(Value.slice ad vs.length cap).ownBlock) v x) (hown:w6.ownsRow w.heap.size 74 1 v' (vs.length+1) (cs++[x])) (hgrow:(w4.alloc o).grownBy w6 (Value.slice ad vs.length cap).ownBlock) (hob:v'.ownBlock=(Value.slice ad vs.length cap).ownBlock∨v'.ownBlock=some (w4.alloc o).heap.size) :
  ∃ad' cap',v'=.slice ad' (vs++[v]).length cap'∧AL D w w6 mb fns k4 ad' cap' (vs++[v]) (cs++[x]):=by
 obtain⟨ad',cap',rfl⟩:=owns_slice hown
 have sz:=ht.size
 have el:(vs++[v]).length=vs.length+1:=by simp
 refine⟨ad',cap',by rw[el],?_,?_,?_,?_⟩
 ·rw[el];exact hown
 ·rw[el]
  exact vrow_step (fun g hg=>Nat.lt_of_lt_of_le (h.row g hg).2 sz) (h.val.touch ht fun g hg e=>hD (by have e:g=mb:=e;rw[←e];exact hg.1)) hv hgrow hob
 ·exact ((h.tch.trans ht).alloc o).grown hgrow fun g hg=>(h.row g hg).1
 ·refine (hM.below (below1 w4 o)).same fun g hg=>hgrow.block g (by have:=hM.lt;simp;omega) fun e=>?_
  have:=(h.row g e.symm).1
  omega
theorem RowAt.slice2 {w:World}{D:Nat→Prop}{e:TypeId}{size:Nat}{v:Value}{n:Nat}{xs:List Value}(h:RowAt w D e size v n xs):∃ad cap,v=.slice ad n cap∧(n≤cap∨n=0):=by
 obtain⟨ad,cap,rfl⟩:=(SegAt.of_row h).slice
 exact⟨ad,cap,rfl,(SegAt.of_row h).capOr⟩
theorem al_ok {D:Nat→Prop}{mb:Nat}{fns:List Fn}{o:Option (List PV×Nat)}{w wr:World}{k:Nat}{ad:Option Addr}{cap:Nat}{vs:List PV}{cs:List Value}(h:AL D w wr mb fns k ad cap vs cs)(hD:∀g,w.heap.size≤g→D g)(ho:o=some (vs,k)):alPost D mb fns o w (.returned (.tuple #[.slice ad vs.length cap,.nilIface])) wr :=
 ⟨h.tch,Or.inl ⟨vs,_,cs,k,ho,rfl,(SegAt.of_row (RowAt.of_owns h.own)).weaken hD,h.val.weaken fun _g hg=>hg.1,h.mch⟩⟩
theorem al_no {D:Nat→Prop}{mb:Nat}{fns:List Fn}{o:Option (List PV×Nat)}{w wr:World}{f:Value}(ht:Touch (·=mb) w wr)(ho:o=none)(hf:FltV f):alPost D mb fns o w (.returned (.tuple #[.slice none 0 0,f])) wr:=⟨ht,Or.inr ⟨ho,f,hf,rfl⟩⟩
theorem all_of {mb k0:Nat}{fns:List Fn}{E:Nat→Env→Ex→Option (PV×Nat)}(IH:RDo mb fns E k0)(good:GoodE E)(w:World)(D:Nat→Prop)(k:Nat)(es:List Ex)(xs:List Value)(sl:Value)(s:Env)(y:Value)(hk:k≤k0)(hD:¬ D mb)(hD2:∀g,w.heap.size≤g→D g)(hM:Mach w mb fns k)
  (hrow:RowAt w (·≠mb) 64 1 sl es.length xs) (hrep:RepEs w (·<mb) es xs) (hs:SC w D s y) (hx:∀e∈es,XPo fns s e) (hl:es.length≤7000) :
  Calls prog 148 #[.pointer (some ⟨mb,0,none⟩),y,sl] w (alPost D mb fns (evL (fun k e=>E k s e) k es) w):=by
 have hmb:=hM.lt
 obtain⟨R,hR⟩:∃R,R=evL (fun k e=>E k s e) k es:=⟨_,rfl⟩
 have HR:Aside (R=evL (fun k e=>E k s e) k es):=hR
 rw[←hR]
 clear hR
 obtain⟨py,rfl⟩:∃o,y=.pointer o:=by
  cases s with
  | nil=>rw[SC] at hs;exact⟨_,hs⟩
  | cons a r=>rw[SC] at hs;obtain⟨b,_,_,_,h,_⟩:=hs;exact⟨_,h⟩
 obtain⟨ad,cap,rfl,hcap⟩:=hrow.slice2
 obtain⟨i0,hi,hz0,hz1,hz2⟩:=info_parts Tryz.infoVVal
 obtain⟨w1,hmk,own1,hg1⟩:=run_make_own (P:=prog) w w.heap.size 70 74 i0 .nilIface 1 underlying70 hi hz0 hz1 .i64 .i64 es.length (by rw[hz2];omega) (by unfold maxLen;omega) (Nat.le_refl _)
 have b1:Below w.heap.size w w1:=(Below.refl _ _).grown hg1 (Nat.le_refl _) (fun k hk=>by cases hk)
 clear hi hz0 hz1 hz2
 have hli:((es.length:Nat):Int)≤7000:=by omega
 go_enter func148,ntmps148
 go_wp2_with fail
 go_loopg [8,18] es.length (fun gh av iv wr=>∃(j k':Nat) (vs:List PV) (cs:List Value) (ad':Option Addr) (cap':Nat),gh=es.length-j∧iv=.int .i64 ((j:Nat):Int)∧av=.slice ad' vs.length cap'∧j≤es.length∧Aside (vs.length=j)∧k'≤k0∧AL D w wr mb fns k' ad' cap' vs cs∧Aside (R=addL vs (evL (fun k e=>E k s e) k' (es.drop j))))
 case atStart=>exact⟨0,k,[],[],_,_,by omega,rfl,rfl,Nat.zero_le _,(show _=_ from rfl),hk,⟨own1,by rw[VLs],Touch.of_below b1,hM.below b1⟩,by show _=_;rw[addL_nil,List.drop_zero];exact HR.out⟩
 case round =>
  obtain⟨j,k',vs,cs,ad',cap',rfl,rfl,rfl,hj,hvl,hk',al,hP⟩:=hrel
  have hvb:vs.length≤7000:=by have:=hvl.out;omega
  by_cases hjl:j<es.length
  ·have hn0:0<es.length:=by omega
   have hdr:es.drop j=es[j]::es.drop (j+1):=List.drop_eq_getElem_cons hjl
   rw[hdr] at hP
   obtain⟨g,o,cp,hcap2,hgm,hc1,hc2,hcell⟩:=(SegAt.of_row hrow).cell hn0
   cases hcap2
   have hxl:xs.length=es.length:=by have:=hrow.1;omega
   have glt:g<w.heap.size:=by
    rcases (SegAt.of_row hrow).2 with ⟨_,h0⟩ | ⟨g',o',cap',cur,hv,_,hh,_⟩
    ·omega
    ·cases hv;exact block_lt hh
   have hreE:=hrep.at j (by omega) hjl
   have hxo:=hx es[j] (List.getElem_mem hjl)
   have c0:wr.cell? ⟨g,o+j,none⟩=some (xs[j]'(by omega)):=al.tch.cell (by rw[hcell j (by omega)];exact List.getElem?_eq_getElem _) (by show ¬ g=mb;exact hgm)
   obtain⟨tx,yx,hxe⟩:=hreE.iface
   rw[hxe] at c0 hreE
   have hDD:∀q,wr.heap.size≤q→D q∧some q≠(Value.slice ad' vs.length cap').ownBlock:=fun q hq=>⟨hD2 q (by have:=al.tch.size;omega),fun e=>by have:=(al.row q e.symm).2;omega⟩
   have hsc:SC wr (fun b=>D b∧some b≠(Value.slice ad' vs.length cap').ownBlock) s (.pointer py):=(hs.keep fun q hq hlt=>al.tch.block q hlt (fun e=>hD (by have e:q=mb:=e;rw[←e];exact hq))).weaken fun q hq=>⟨hq.1,fun e=>by have:=(al.row q e.symm).1;have:=hq.2;omega⟩
   have CE:=IH wr (fun b=>D b∧some b≠(Value.slice ad' vs.length cap').ownBlock) k' es[j] _ s _ hk' (fun h=>hD h.1) hDD al.mch (hreE.touch al.tch) hsc hxo
   have GK:Hid (∀v k2,E k' s es[j]=some (v,k2)→k2≤k'):=fun v k2 h=>(good k' s es[j] v k2 hxo.fine hxo.lit h).2
   have NO:Hid (E k' s es[j]=none→R=none):=fun h=>by rw[hP.out,evL_noneP h];rfl
   have GO:Hid (∀v k2,E k' s es[j]=some (v,k2)→Aside (R=addL (vs++[v]) (evL (fun k e=>E k s e) k2 (es.drop (j+1))))):=fun v k2 h=>by show _=_;rw[hP.out,evL_someP vs h]
   have hsz:w.heap.size≤wr.heap.size:=al.tch.size
   have hji:(j:Int)<((es.length:Nat):Int):=by omega
   unfold maxLen at hc2
   clear hcell hrow hrep hxe hreE hsc hx hxo hP hdr hs hmk own1 hg1 hcap
   generalize E k' s es[j]=Ev at *
   go_wp2_with fail
   refine CE.mono ?_
   rintro e w4 ⟨ht4,⟨v,x,k2,ho,rfl,hv,hM4⟩ | ⟨ho,u,f,hf,rfl⟩⟩
   ·obtain⟨tv,xv,rfl⟩:=hv.iface
    have own4:w4.ownsRow w.heap.size 74 1 (.slice ad' vs.length cap') vs.length cs:=owns_keep al.own fun q hq=>ht4.block q (al.row q hq).2 (by have:=(al.row q hq).1;show ¬ q=mb;omega)
    have hsz4:w.heap.size≤w4.heap.size:=Nat.le_trans hsz ht4.size
    have STH:Hid (∀w6 v' o,_):=fun w6 v' o=>AL.step (w6:=w6) (v':=v') (o:=o) al hD hmb ht4 hM4 hv
    have hk2:=GK.out _ _ ho
    have HM:=GO.out _ _ ho
    clear CE GK NO GO hv ho hM4 al hDD
    go_wp2_with (at_builtin;obtain⟨i0,hi,hz0,hz1,hz2⟩:=info_parts Tryz.infoVVal;refine wpList_append_own_at _ rfl _ _ 70 rfl w.heap.size 74 i0 .nilIface 1 16 underlying70 hi hz0 hz1 hz2 rfl (by decide) _ _ _ rfl (own4.alloc _) ⟨w4.heap.size,0,none⟩ 1 1 [.iface tv xv] rfl rfl (cell_one_new _ _ _) (fun x hx=>by simp at hx;subst hx;rfl) (by unfold maxLen;omega) (by omega) (by simp;omega) ?_;intro v' w6 hown' hgrow hnil hob;clear hi hz0 hz1 hz2)
    go_roundg (es.length-(j+1))
    case measure=>omega
    case rel =>
     obtain⟨ad2,cap2,rfl,al2⟩:=STH.out _ _ _ hown' hgrow hob
     exact⟨j+1,k2,_,_,ad2,cap2,rfl,by go_num,rfl,by omega,(by show _=_;have:=hvl.out;simp;omega),by omega,al2,HM⟩
   ·have HF:Hid (FltV f):=hf
    have HO:Hid (R=none):=NO.out ho
    obtain⟨tf,yf,rfl⟩:=hf.iface
    have ht5:=al.tch.trans ht4
    clear CE GK NO GO hf ho al hDD
    go_wp2_with fail
    go_ret2
    exact al_no ht5 HO.out HF.out
  ·have hjj:j=es.length:=by omega
   have hji:¬ (j:Int)<((es.length:Nat):Int):=by omega
   have HO:Hid (R=some (vs,k')):=by
    have h2:=hP.out
    rw[hjj,List.drop_length] at h2
    rw[h2]
    show addL vs (some ([],k'))=_
    simp[addL]
   clear hmk own1 hg1 hrow hrep hs hx IH hP hcap
   subst hjj
   go_wp2_with fail
   go_ret2
   exact al_ok al hD2 HO.out
def findF (fns:List Fn)(n:List UInt8)(k:Nat):Option Fn:=fns.find? fun f=>f.name==n&&f.params.length==k
theorem FnOf.findF {fns:List Fn}{n:List UInt8}{k:Nat}(h:FnOf fns n k):∃f,findF fns n k=some f∧fns.find? (fun f=>f.name==n)=some f:=by
 obtain⟨f,h1,h2⟩:=h
 refine⟨f,?_,h1⟩
 unfold Proofs.YtifhgjpglicjbaaGreatDoor.findF
 rw[List.find?_eq_some_iff_getElem] at h1 ⊢
 obtain⟨a,i,hi,b,c⟩:=h1
 refine⟨by simp[a,h2],i,hi,b,fun j hj=>?_⟩
 have:=c j hj
 simp only[Bool.not_eq_true'] at this ⊢
 simp[this]
theorem sigs_idx {w:World}{D:Nat→Prop}(wd:ByteArray)(k:Nat):∀{xs:List FnV} {fns:List Fn},FnsRep w D xs fns→findSig wd k (sigsV xs (fns.map (·.params.length)))=fns.findIdx? (fun f=>f.name==wd.data.toList&&f.params.length==k)
 | [],fns,h=>by rw[show fns=[] from h];rfl
 | x::xs,fns,h=>by
  obtain⟨fn,r,rfl,h2,h3⟩:=h
  have e:sigIs wd k x.nb fn.params.length=(fn.name==wd.data.toList&&fn.params.length==k):=by
   unfold sigIs
   rw[ByteArray.toList_eq,ByteArray.toList_eq,h2.1]
  have ih:=sigs_idx wd k h3
  unfold findSig sigsV at ih ⊢
  simp only[List.map_cons,List.zip_cons_cons,List.findIdx?_cons,e]
  rw[ih]
theorem findF_idx {fns:List Fn}{n:List UInt8}{k:Nat}:findF fns n k=(fns.findIdx? (fun f=>f.name==n&&f.params.length==k)).bind fun j=>fns[j]?:=by
 unfold findF
 cases h:fns.findIdx? (fun f=>f.name==n&&f.params.length==k) with
 | none =>
  rw[List.findIdx?_eq_none_iff] at h
  rw[Option.bind_none,List.find?_eq_none]
  intro x hx
  rw[h x hx]
  decide
 | some j =>
  rw[List.findIdx?_eq_some_iff_getElem] at h
  obtain⟨h1,h2,h3⟩:=h
  rw[Option.bind_some,List.getElem?_eq_getElem h1,List.find?_eq_some_iff_getElem]
  exact⟨h2,j,h1,rfl,fun i hi=>by have:=h3 i hi;rw[Bool.not_eq_true] at this;rw[this];rfl⟩
def fdPost (mb:Nat)(fns:List Fn)(o:Option Fn)(w:World)(e:Ending)(w':World):Prop :=
 Below w.heap.size w w'∧((∃(f:Fn) (nb:ByteArray) (a:Nat) (ad:Option Addr) (cap:Nat) (bs:List (ByteArray×Nat)) (tb:TypeId) (yb:Value),o=some f∧f∈fns∧e=.returned (.tuple #[.agg #[.string nb,.int .i64 ((a:Nat):Int),.slice ad bs.length cap,.iface tb yb],.bool true])∧plainNames bs=f.params∧RowAt w' (·<mb) 61 2 (.slice ad bs.length cap) bs.length (nameCells bs)∧RepE w' (·<mb) f.body (.iface tb yb)) ∨
  (o=none∧e=.returned (.tuple #[.agg #[.string ⟨#[]⟩,.int .i64 0,.slice none 0 0,.nilIface],.bool false])))
theorem mfind_any {mb:Nat}{fns:List Fn}{sl:Value}{w:World}(h:ProgAt w (·<mb) sl fns)(wd:ByteArray)(k:Nat)(hk:k≤9223372036854775807):
  Calls prog 26 #[.agg #[sl],.string wd,.int .i64 ((k:Nat):Int)] w (fdPost mb fns (findF fns wd.data.toList k) w):=by
 obtain⟨xs,hrow,hrep,hl,hsm⟩:=h
 have hlen:=hrep.length
 have hbv:∀x∈xs,∃t y,x.bv=Value.iface t y:=fun x hx=>by
  obtain⟨j,hj,rfl⟩:=List.getElem_of_mem hx
  exact (hrep.at j hj (by omega)).2.2.2.iface
 refine (find_fn sl xs _ wd k w _ hbv hrow (hrep.lens hsm) hl hk).mono fun e w' ⟨h1,hb⟩=>⟨hb,?_⟩
 rw[sigs_idx wd k hrep] at h1
 rw[findF_idx]
 cases hI:fns.findIdx? (fun f=>f.name==wd.data.toList&&f.params.length==k) with
 | none=>rw[hI] at h1;exact Or.inr ⟨rfl,h1⟩
 | some j =>
  rw[hI] at h1
  have hj:=(List.findIdx?_eq_some_iff_getElem.1 hI).1
  have hjx:j<xs.length:=by omega
  have hr:=hrep.at j hjx hj
  obtain⟨_,_,⟨bs,hbs,hpr⟩,hbd⟩:=hr
  obtain⟨ad,cap,hpv⟩:=(SegAt.of_row hpr).slice
  obtain⟨tb,yb,hby⟩:=hbd.iface
  rw[hpv] at hpr
  rw[hby] at hbd
  simp only[findV,List.getElem?_eq_getElem hjx] at h1
  refine Or.inl ⟨fns[j],xs[j].nb,xs[j].at_,ad,cap,bs,tb,yb,by rw[Option.bind_some,List.getElem?_eq_getElem hj],List.getElem_mem hj,?_,hbs,row_below hpr hb,(hbd.keep fun q _ hlt=>hb.block q hlt).weaken fun q hq=>hq.1⟩
  rw[h1]
  unfold fnV
  rw[hpv,hby]
def evCA (E:Nat→Env→Ex→Option (PV×Nat))(fns:List Fn)(k:Nat)(n:List UInt8)(vs:List PV):Option (PV×Nat) :=
 match findF fns n vs.length with
 | none=>none
 | some f=>E k (parEnv f vs) f.body
theorem evCA_eq {E:Nat→Env→Ex→Option (PV×Nat)}{fns:List Fn}{k:Nat}{n:List UInt8}{vs:List PV}(h:FnOf fns n vs.length):evCA E fns k n vs=evC E fns k n vs:=by
 obtain⟨f,h1,h2⟩:=h.findF
 unfold evCA evC
 rw[h1,h2]
def parE (bs:List (ByteArray×Nat))(vs:List PV)(j:Nat):Env:=(((bs.map (·.1.data.toList)).zip vs).take j).reverse
theorem parE_all {bs:List (ByteArray×Nat)}{f:Fn}{vs:List PV}(h:plainNames bs=f.params)(hl:bs.length=vs.length):parE bs vs bs.length=parEnv f vs:=by
 unfold parE parEnv
 rw[←h,List.take_of_length_le (by simp;omega)]
 unfold plainNames
 simp[List.map_map,Function.comp_def]
theorem parE_succ {bs:List (ByteArray×Nat)}{vs:List PV}{j:Nat}(hj:j<bs.length)(hj2:j<vs.length):parE bs vs (j+1)=(bs[j].1.data.toList,vs[j])::parE bs vs j:=by
 unfold parE
 rw[List.take_add_one,List.getElem?_eq_getElem (by simp;omega)]
 simp
theorem findF_arity {fns:List Fn}{n:List UInt8}{k:Nat}{f:Fn}(h:findF fns n k=some f):f.params.length=k∧f∈fns:=by
 have h1:=List.find?_some h
 have h2:=List.mem_of_find?_eq_some h
 simp at h1
 exact⟨h1.2,h2⟩
theorem SC.ptr {w:World}{D:Nat→Prop}{s:Env}{y:Value}(h:SC w D s y):∃o,y=.pointer o:=by
 cases s with
 | nil=>rw[SC] at h;exact⟨_,h⟩
 | cons a r=>rw[SC] at h;obtain⟨b,_,_,_,h,_⟩:=h;exact⟨_,h⟩
theorem rk_from {D:Nat→Prop}{mb:Nat}{fns:List Fn}{o:Option (PV×Nat)}{w w1 w':World}{e:Ending}(ht:Touch (·=mb) w w1)(h:rkPost D mb fns o w1 e w'):rkPost D mb fns o w e w':=⟨ht.trans h.1,h.2⟩
theorem call_of {mb k0:Nat}{fns:List Fn}{E:Nat→Env→Ex→Option (PV×Nat)}(hP:ProgOk fns)(IH:RDo mb fns E k0)(w:World)(D:Nat→Prop)(k:Nat)(nm:ByteArray)(vs:List PV)(cs:List Value)(sl:Value)(hk:k≤k0)(hD:¬ D mb)(hD2:∀g,w.heap.size≤g→D g)(hM:Mach w mb fns k)
  (hseg:SegAt w D 74 1 sl vs.length cs) (hvs:VLs w D vs cs) (hf:∀v∈vs,Fine v) (hl:vs.length≤100000000) :
  Calls prog 54 #[.pointer (some ⟨mb,0,none⟩),.string nm,sl] w (rkPost D mb fns (evCA E fns k nm.data.toList vs) w):=by
 obtain⟨ad,n,cap,st,hst,c0,c1,cf,lr,hprog,_⟩:=hM.facts
 obtain⟨sad,scap,rfl⟩:=hseg.slice
 have CF:Hid (∀X,Below w.heap.size w X→Calls prog 26 #[.agg #[.slice ad n cap],.string nm,.int .i64 ((vs.length:Nat):Int)] X _):=fun X hX=>mfind_any (hprog.below hX) nm vs.length (by omega)
 go_enter func54,ntmps54
 go_wp2_with fail
 refine (CF.out w (Below.refl _ _)).mono ?_
 rintro e w1 ⟨hb1,⟨f,nb,a,pad,pcap,bs,tb,yb,ho,hfm,rfl,hbs,hprow,hbody⟩ | ⟨ho,rfl⟩⟩
 ·obtain⟨har,_⟩:=findF_arity ho
  have hbl:bs.length=vs.length:=by rw[←har,←hbs];simp[plainNames]
  have HE:Aside (evCA E fns k nm.data.toList vs=E k (parEnv f vs) f.body):=by show _=_;unfold evCA;rw[ho]
  have hxp:XPo fns (parEnv f vs) f.body:=⟨FineS.par hf,hP.lit f hfm,hP.wf f hfm,by have:=hP.sz f hfm;omega,_,hP.sc f hfm⟩
  have HBL:Aside (bs.length=vs.length):=hbl
  have HBS:Aside (plainNames bs=f.params):=hbs
  have hvl:bs.length≤100000000:=by omega
  have hvi:((vs.length:Nat):Int)=((bs.length:Nat):Int):=by omega
  have bX:Below w.heap.size w (w1.alloc (Obj.cells #[.string nb,.int .i64 ((a:Nat):Int),.slice pad bs.length pcap,.iface tb yb] 66)):=hb1.alloc hb1.size _
  have hXf:(w1.alloc (Obj.cells #[.string nb,.int .i64 ((a:Nat):Int),.slice pad bs.length pcap,.iface tb yb] 66)).heap[w1.heap.size]?=some (.cells #[.string nb,.int .i64 ((a:Nat):Int),.slice pad bs.length pcap,.iface tb yb] 66):=heap_alloc_new _ _
  have hXz:(w1.alloc (Obj.cells #[.string nb,.int .i64 ((a:Nat):Int),.slice pad bs.length pcap,.iface tb yb] 66)).heap.size=w1.heap.size+1:=by simp
  have sz1:=hb1.size
  have MX:Hid (∀Y,Below w.heap.size w Y→Mach Y mb fns k):=fun Y hY=>hM.below hY
  have hprowX:∀Y,Below (w1.heap.size+1) (w1.alloc (Obj.cells #[.string nb,.int .i64 ((a:Nat):Int),.slice pad bs.length pcap,.iface tb yb] 66)) Y→RowAt Y (·<mb) 61 2 (.slice pad bs.length pcap) bs.length (nameCells bs)∧RepE Y (·<mb) f.body (.iface tb yb)∧Below w.heap.size w Y:=fun Y hY=>by
   have hw1:Below w1.heap.size w1 Y:=(below1 w1 _).trans (hY.mono (by omega))
   exact⟨row_below hprow hw1,(hbody.keep fun q _ hlt=>hw1.block q hlt).weaken fun q hq=>hq.1,hb1.trans (hw1.mono sz1)⟩
  clear CF hprog hM c0 c1 cf hbl har hbs hbody hprow
  go_wp2_with fail
  go_loopg [10,30] bs.length (fun gh nv iv wr=>∃j:Nat,gh=bs.length-j∧iv=.int .i64 ((j:Nat):Int)∧j≤bs.length∧SC wr D (parE bs vs j) nv∧Below (w1.heap.size+1) (w1.alloc (Obj.cells #[.string nb,.int .i64 ((a:Nat):Int),.slice pad bs.length pcap,.iface tb yb] 66)) wr)
  case atStart=>exact⟨0,by omega,rfl,by omega,by simp[parE,SC],Below.refl _ _⟩
  case round =>
   obtain⟨j,rfl,rfl,hj,hsc,hbr⟩:=hrel
   obtain⟨hrow,hbd,hbw⟩:=hprowX wr hbr
   obtain⟨no,rfl⟩:=hsc.ptr
   have fbl:wr.heap[w1.heap.size]?=some (.cells #[.string nb,.int .i64 ((a:Nat):Int),.slice pad bs.length pcap,.iface tb yb] 66):=by rw[hbr.block _ (by omega)];exact hXf
   by_cases hjl:j<bs.length
   ·have hjv:j<vs.length:=by have:=HBL.out;omega
    obtain⟨n0,n1⟩:=nameCells_at bs j hjl
    obtain⟨g,cp,cur,hgv,hgD,hh,hc1,hc2,hcs,htk⟩:∃g cap cur,Value.slice pad bs.length pcap=.slice (some ⟨g,0,none⟩) bs.length cap∧(g<mb)∧wr.heap[g]?=some (.cells cur 61)∧bs.length≤cap∧cap≤maxLen∧cur.size=cap*2∧cur.toList.take (bs.length*2)=nameCells bs:=by
     rcases hrow.2 with ⟨_,h0⟩ | h
     ·omega
     ·exact h
    cases hgv
    have p0:wr.cell? ⟨g,j*2,none⟩=some (.string bs[j].1):=by
     rw[←htk,List.getElem?_take,if_pos (by omega)] at n0
     unfold World.cell?;rw[hh];simpa using n0
    have p1:wr.cell? ⟨g,j*2+1,none⟩=some (.int .i64 ((bs[j].2:Nat):Int)):=by
     rw[←htk,List.getElem?_take,if_pos (by omega)] at n1
     unfold World.cell?;rw[hh];simpa using n1
    obtain⟨x,hx,hvx⟩:=hvs.at j hjv
    obtain⟨tx,yx,rfl⟩:=hvx.iface
    obtain⟨ga,oa,cpa,hcapa,_,ha1,ha2,hcella⟩:=hseg.cell (by omega)
    cases hcapa
    have q0:wr.cell? ⟨ga,oa+j,none⟩=some (.iface tx yx):=Below.cellv hbw (by rw[hcella j (by omega)];exact hx)
    have hga:ga<wr.heap.size:=cell_lt q0
    have hgg:g<wr.heap.size:=cell_lt p0
    have nga:wr.heap.size≠ga:=by omega
    have hpj:=parE_succ hjl hjv
    have STEP:Hid (∀X Y b,Below wr.heap.size wr X→Below X.heap.size X Y→X.heap.size≤b→Y.heap[b]?=some (.cells #[.string bs[j].1,.iface tx yx,.pointer no] 255)→SC Y D (parE bs vs (j+1)) (.pointer (some ⟨b,0,none⟩))∧Below (w1.heap.size+1) (w1.alloc (Obj.cells #[.string nb,.int .i64 ((a:Nat):Int),.slice (some ⟨g,0,none⟩) bs.length pcap,.iface tb yb] 66)) Y):=fun X Y b hX hY hb hyb=>by
     rw[hpj]
     have hwY:Below wr.heap.size wr Y:=hX.trans (hY.mono hX.size)
     refine⟨SC.cons (_w:=Y) (hsc.below hwY) rfl ((hvx.below hbw).below hwY) (hD2 b (by have:=hbw.size;have:=hX.size;omega)) hyb,hbr.trans (hwY.mono (by have:=hbr.size;omega))⟩
    have hji:(j:Int)<((bs.length:Nat):Int):=by omega
    unfold maxLen at hc2 ha2
    clear hpj hsc hvx hrow hbd hh htk n0 n1 hcella hx fbl
    generalize bs[j].1=nj at *
    generalize bs[j].2=aj at *
    have CW:Hid (∀X,Calls prog 75 #[.pointer no,.string nj,.iface tx yx] X _):=fun X=>scwith_any (.pointer no) (.iface tx yx) nj X ⟨_,rfl⟩ ⟨_,_,rfl⟩
    go_wp2_with fail
    have hjv2:(j:Int)<((vs.length:Nat):Int):=by omega
    have B8:Below wr.heap.size wr (wr.alloc (Obj.cells #[.string nj,.int .i64 ((aj:Nat):Int)] 61)):=below1 wr _
    have e0:(wr.alloc (Obj.cells #[.string nj,.int .i64 ((aj:Nat):Int)] 61)).cell? ⟨wr.heap.size,0,none⟩=some (.string nj):=by simp
    have e1:(wr.alloc (Obj.cells #[.string nj,.int .i64 ((aj:Nat):Int)] 61)).cell? ⟨ga,oa+j,none⟩=some (.iface tx yx):=alloc_cell q0
    generalize wr.alloc (Obj.cells #[.string nj,.int .i64 ((aj:Nat):Int)] 61)=X8 at *
    go_region_with (go_at_call 75;refine (CW.out _).mono ?_;rintro e w5 ⟨hb5,b5,hb5a,rfl,hb5c⟩)
    all_goals (go_wp2_with fail)
    all_goals (go_roundg (bs.length-(j+1)))
    all_goals first | omega | skip
    all_goals
     obtain⟨hs6,hb6⟩:=STEP.out _ _ _ B8.drew hb5 hb5a hb5c
     exact⟨j+1,rfl,by go_num,by omega,hs6,hb6⟩
   ·have hjj:j=bs.length:=by omega
    have hji:¬ (j:Int)<((bs.length:Nat):Int):=by omega
    have f3:wr.cell? ⟨w1.heap.size,3,none⟩=some (.iface tb yb):=by unfold World.cell?;rw[fbl];rfl
    rw[hjj,parE_all HBS.out HBL.out] at hsc
    have CE:=IH wr D k f.body _ (parEnv f vs) _ hk hD (fun q hq=>hD2 q (by have:=hbw.size;omega)) (MX.out _ hbw) hbd hsc hxp
    rw[←HE.out] at CE
    generalize evCA E fns k nm.data.toList vs=R at *
    have TW:Touch (·=mb) w wr:=Touch.of_below hbw
    clear hsc hbd hrow hseg hvs IH MX hprowX HE HBL HBS
    subst hjj
    go_wp2_with (go_at_call 76;refine CE.mono ?_;rintro e w7 hr7;obtain⟨u7,f7,rfl⟩:=rk_tup hr7)
    go_ret2
    exact rk_from TW hr7
 ·have FIN:Hid (∀X u b,Below w.heap.size w X→rkPost D mb fns (evCA E fns k nm.data.toList vs) w (.returned (.tuple #[u,whyB b])) X):=fun X u b hX=>rk_no (by unfold evCA;rw[ho]) (Touch.of_below hX) (flt_why b)
  clear CF hseg hvs hM hprog
  go_wp2_with fail
  go_ret2
  exact FIN.out _ _ _ (hb1.alloc hb1.size _)
end Go.Proofs.YtifhgjpglicjbaaGreatDoor
