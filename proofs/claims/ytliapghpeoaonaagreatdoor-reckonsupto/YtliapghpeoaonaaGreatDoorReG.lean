/-
  The program: the machine that reckons; reckon out of carryOut.
-/
import Derived.Test.YtliapghpeoaonaaGreatDoorReE
import Derived.Test.YtliapghpeoaonaaGreatDoorCln
set_option maxHeartbeats 4000000
set_option maxRecDepth 8000
namespace Go.Proofs.YtliapghpeoaonaaGreatDoor
open Go.Proofs.Tryz
open Go.RowKit Go.Lib
attribute [local go_sem ↓] Go.wp_at_zero Go.wp_at_succ
structure Zfw (w:World)(mb:Nat)(fns:List Fn)(k:Nat):Prop where
 blk:∃(ad:Option Addr) (n cap:Nat) (st:Int),w.heap[mb]?=some (.cells #[.slice ad n cap,.int .i64 st] 219)∧st+(k:Int)=20000∧Zfs w (·<mb) (.slice ad n cap) fns
 hk:k≤20000
 flt:Zzx w
 hm:15≤mb
theorem Zfw.lt {w:World}{mb k:Nat}{fns:List Fn}(h:Zfw w mb fns k):mb<w.heap.size:=by
 obtain⟨_,_,_,_,hb,_⟩:=h.blk
 exact Zag hb
theorem Zfw.below {w w':World}{mb k:Nat}{fns:List Fn}(h:Zfw w mb fns k)(hb:Below w.heap.size w w'):Zfw w' mb fns k:=by
 obtain⟨ad,n,cap,st,h1,h2,h3⟩:=h.blk
 exact⟨⟨ad,n,cap,st,by rw[hb.block mb (Zag h1)];exact h1,h2,h3.below hb⟩,h.hk,h.flt.below hb,h.hm⟩
theorem Zfw.same {w w':World}{mb k:Nat}{fns:List Fn}(h:Zfw w mb fns k)(hs:∀g,g≤mb→w'.heap[g]?=w.heap[g]?):Zfw w' mb fns k:=by
 obtain⟨ad,n,cap,st,h1,h2,h3⟩:=h.blk
 have hm:=h.hm
 refine⟨⟨ad,n,cap,st,by rw[hs mb (Nat.le_refl _)];exact h1,h2,?_⟩,h.hk,?_,hm⟩
 ·exact (h3.keep fun g hg _=>hs g (Nat.le_of_lt hg)).weaken fun g hg=>hg.1
 ·obtain⟨g1,a,g2⟩:=h.flt
  exact⟨(World.cell?_of_block (w:=w) (hs 9 (by omega))).trans g1,a,(World.cell?_of_block (w:=w) (hs 0 (by omega))).trans g2⟩
theorem Zfw.facts {w:World}{mb k:Nat}{fns:List Fn}(h:Zfw w mb fns k):∃(ad:Option Addr) (n cap:Nat) (st:Int),st+(k:Int)=20000∧w.cell? ⟨mb,0,none⟩=some (.slice ad n cap)∧w.cell? ⟨mb,1,none⟩=some (.int .i64 st)∧(∀j,w.frozen? ⟨mb,j,none⟩=false)∧mb<w.heap.size∧Zfs w (·<mb) (.slice ad n cap) fns∧∀st':Int,∀k':Nat,st'+(k':Int)=20000→k'≤20000→Zfw (w.setCell ⟨mb,1,none⟩ (.int .i64 st')) mb fns k':=by
 obtain⟨ad,n,cap,st,hb,hs,hp⟩:=h.blk
 have hm:=h.hm
 refine⟨ad,n,cap,st,hs,?_,?_,fun j=>?_,Zag hb,hp,fun st' k' e hk'=>⟨⟨ad,n,cap,st',?_,e,?_⟩,hk',?_,hm⟩⟩
 ·unfold World.cell?;rw[hb];rfl
 ·unfold World.cell?;rw[hb];rfl
 ·unfold World.frozen?;rw[hb];rfl
 ·rw[Zau hb];rfl
 ·exact (hp.keep fun k hk _=>Below.heap_setCell w ⟨mb,1,none⟩ _ k (by have hk:k<mb:=hk;show k≠mb;omega)).weaken fun k hk=>hk.1
 ·exact h.flt.touch ((Zaa.refl (·=mb) w).setCell (p:=⟨mb,1,none⟩) (Or.inl rfl) _) hm
def Zez (D:Nat→Prop)(mb:Nat)(fns:List Fn)(o:Option (PV×Nat))(w:World)(e:Ending)(w':World):Prop :=
 Zaa (·=mb) w w'∧((∃v x k',o=some (v,k')∧e=.returned (.tuple #[x,.nilIface])∧VL w' D v x∧Zfw w' mb fns k')∨(o=none∧∃u f,Zii f∧e=.returned (.tuple #[u,f])))
def Zbl (D:Nat→Prop)(mb:Nat)(fns:List Fn)(o:Option (PV×Nat))(w:World)(e:Ending)(w':World):Prop :=
 Zaa (·=mb) w w'∧((∃v x k',o=(if wtV v≤600 then some (v,k') else none)∧wtV v≤100000000∧e=.returned (.tuple #[x,.nilIface])∧VL w' D v x∧Zfw w' mb fns k')∨(o=none∧∃u f,Zii f∧e=.returned (.tuple #[u,f])))
theorem rk_ok {D:Nat→Prop}{mb:Nat}{fns:List Fn}{o:Option (PV×Nat)}{w w':World}{v:PV}{x:Value}{k':Nat}(ho:o=some (v,k'))(ht:Zaa (·=mb) w w')(hv:VL w' D v x)(hM:Zfw w' mb fns k'):Zez D mb fns o w (.returned (.tuple #[x,.nilIface])) w':=⟨ht,Or.inl ⟨v,x,k',ho,rfl,hv,hM⟩⟩
theorem rk_no {D:Nat→Prop}{mb:Nat}{fns:List Fn}{o:Option (PV×Nat)}{w w':World}{u f:Value}(ho:o=none)(ht:Zaa (·=mb) w w')(hf:Zii f):Zez D mb fns o w (.returned (.tuple #[u,f])) w':=⟨ht,Or.inr ⟨ho,u,f,hf,rfl⟩⟩
theorem Z24 {D:Nat→Prop}{mb:Nat}{fns:List Fn}{o:Option (PV×Nat)}{w w':World}{v:PV}{x:Value}{k':Nat}(ho:o=(if wtV v≤600 then some (v,k') else none))(hw:wtV v≤100000000)(ht:Zaa (·=mb) w w')(hv:VL w' D v x)(hM:Zfw w' mb fns k'):Zbl D mb fns o w (.returned (.tuple #[x,.nilIface])) w':=⟨ht,Or.inl ⟨v,x,k',ho,hw,rfl,hv,hM⟩⟩
theorem Zk7 {D:Nat→Prop}{mb:Nat}{fns:List Fn}{o:Option (PV×Nat)}{w w':World}{u f:Value}(ho:o=none)(ht:Zaa (·=mb) w w')(hf:Zii f):Zbl D mb fns o w (.returned (.tuple #[u,f])) w':=⟨ht,Or.inr ⟨ho,u,f,hf,rfl⟩⟩
theorem Zms {D:Nat→Prop}{mb:Nat}{fns:List Fn}{o:Option (PV×Nat)}{w w1 w':World}{e:Ending}(ht:Zaa (·=mb) w w1)(hf:∀v k',o=some (v,k')→wtV v≤600)(h:Zez D mb fns o w1 e w'):Zbl D mb fns o w e w':=by
 obtain⟨a,⟨v,x,k',ho,he,hv,hM⟩ | ⟨ho,u,f,hff,he⟩⟩:=h
 ·have:=hf v k' ho
  exact⟨ht.trans a,Or.inl ⟨v,x,k',by rw[if_pos this];exact ho,by omega,he,hv,hM⟩⟩
 ·exact⟨ht.trans a,Or.inr ⟨ho,u,f,hff,he⟩⟩
theorem Zps {D:Nat→Prop}{mb:Nat}{fns:List Fn}{o:Option (PV×Nat)}{w w':World}{e:Ending}(h:Zez D mb fns o w e w'):∃u f,e=.returned (.tuple #[u,f]):=by
 obtain⟨_,⟨_,_,_,_,h,_⟩ | ⟨_,u,f,_,h⟩⟩:=h
 ·exact⟨_,_,h⟩
 ·exact⟨_,_,h⟩
theorem Zoj {D:Nat→Prop}{mb:Nat}{fns:List Fn}{o:Option (PV×Nat)}{w w':World}{e:Ending}(h:Zbl D mb fns o w e w'):∃u f,e=.returned (.tuple #[u,f]):=by
 obtain⟨_,⟨_,_,_,_,_,h,_⟩ | ⟨_,u,f,_,h⟩⟩:=h
 ·exact⟨_,_,h⟩
 ·exact⟨_,_,h⟩
def Zv6 (x:Value):Prop:=∃(t:TypeId) (y:Value) (a:Int),x=.iface t y∧∀w,(Go.method 634 t y "Place").run prog w=.ok (225,.int .i64 a) w
theorem Zx8 (a b:Value)(w:World):(Go.method 634 432 (.agg #[a,b]) "Place").run prog w=.ok (225,a) w:=by kernel_rfl
theorem pl_tText (a b:Value)(w:World):(Go.method 634 434 (.agg #[a,b]) "Place").run prog w=.ok (225,a) w:=by kernel_rfl
theorem Zs3 (a b:Value)(w:World):(Go.method 634 409 (.agg #[a,b]) "Place").run prog w=.ok (225,a) w:=by kernel_rfl
theorem pl_tList (a b:Value)(w:World):(Go.method 634 420 (.agg #[a,b]) "Place").run prog w=.ok (225,a) w:=by kernel_rfl
theorem pl_tCall (a b c d:Value)(w:World):(Go.method 634 414 (.agg #[a,b,c,d]) "Place").run prog w=.ok (225,a) w:=by kernel_rfl
theorem pl_tMap (a b c d:Value)(w:World):(Go.method 634 418 (.agg #[a,b,c,d]) "Place").run prog w=.ok (225,a) w:=by kernel_rfl
theorem pl_tLet (a b c d e:Value)(w:World):(Go.method 634 411 (.agg #[a,b,c,d,e]) "Place").run prog w=.ok (225,a) w:=by kernel_rfl
theorem pl_tIf (a b c d:Value)(w:World):(Go.method 634 422 (.agg #[a,b,c,d]) "Place").run prog w=.ok (225,a) w:=by kernel_rfl
theorem pl_tSet (a b c d:Value)(w:World):(Go.method 634 424 (.agg #[a,b,c,d]) "Place").run prog w=.ok (225,a) w:=by kernel_rfl
theorem pl_tLen (a b:Value)(w:World):(Go.method 634 429 (.agg #[a,b]) "Place").run prog w=.ok (225,a) w:=by kernel_rfl
theorem Zx9 (a b c d:Value)(w:World):(Go.method 634 427 (.agg #[a,b,c,d]) "Place").run prog w=.ok (225,a) w:=by kernel_rfl
theorem Zc8.place {w:World}{D:Nat→Prop}{e:Ex}{x:Value}(h:Zc8 w D e x):Zv6 x:=by
 cases e with
 | num b=>rw[Zc8] at h;obtain⟨sp,rfl⟩:=h;exact⟨_,_,_,rfl,fun w=>Zx8 _ _ w⟩
 | txt b=>rw[Zc8] at h;obtain⟨sp,bb,_,rfl⟩:=h;exact⟨_,_,_,rfl,fun w=>pl_tText _ _ w⟩
 | var n a=>rw[Zc8] at h;obtain⟨nb,_,rfl⟩:=h;exact⟨_,_,_,rfl,fun w=>Zs3 _ _ w⟩
 | form wd n a ks =>
  rw[Zc8] at h
  obtain⟨sp,vs,_,h2⟩:=h
  rcases h2 with ⟨_,_,rfl,_⟩ | ⟨_,_,_,_,_,rfl,_⟩ | ⟨_,_,_,_,_,_,rfl⟩ | ⟨_,_,_,_,_,_,_,rfl⟩ | ⟨_,_,_,_,_,rfl⟩ | ⟨_,_,_,_,_,rfl⟩ | ⟨_,_,_,rfl⟩ | ⟨_,_,_,_,_,_,rfl⟩
  ·exact⟨_,_,_,rfl,fun w=>pl_tList _ _ w⟩
  ·exact⟨_,_,_,rfl,fun w=>pl_tCall _ _ _ _ w⟩
  ·exact⟨_,_,_,rfl,fun w=>pl_tMap _ _ _ _ w⟩
  ·exact⟨_,_,_,rfl,fun w=>pl_tLet _ _ _ _ _ w⟩
  ·exact⟨_,_,_,rfl,fun w=>pl_tIf _ _ _ _ w⟩
  ·exact⟨_,_,_,rfl,fun w=>pl_tSet _ _ _ _ w⟩
  ·exact⟨_,_,_,rfl,fun w=>pl_tLen _ _ w⟩
  ·exact⟨_,_,_,rfl,fun w=>Zx9 _ _ _ _ w⟩
theorem Znj (a:Int)(w:World):Calls prog 225 #[.int .i64 a] w fun e w'=>e=.returned (.int .i64 a)∧w'=w:=by
 go_enter func225,ntmps225
 go_wp2
 go_ret
 exact⟨rfl,rfl⟩
theorem Zlo (D:Nat→Prop){mb:Nat}{fns:List Fn}{w:World}(hM:Zfw w mb fns 0)(x y:Value)(hp:Zv6 x)(hy:∃o,y=.pointer o):
  Calls prog 152 #[.pointer (some ⟨mb,0,none⟩),x,y] w (Zez D mb fns none w):=by
 obtain⟨o,rfl⟩:=hy
 obtain⟨t,xx,a,rfl,mP⟩:=hp
 obtain⟨ad,n,cap,st,hst,c0,c1,cf,lr,_,_⟩:=hM.facts
 have hst2:st=20000:=by omega
 subst hst2
 have hG:=hM.flt
 have CP:Hid (∀X b,Zzx X→Calls prog 192 #[.int .i64 a,Zm2 b] X _):=fun X b hX=>Zpw a _ X (Zb9 b) hX
 have CQ:=fun X=>Znj a X
 have FIN:Hid (∀X u f,Zaa (·=mb) w X→Zii f→Zez D mb fns none w (.returned (.tuple #[u,f])) X):=fun X u f h1 h2=>rk_no rfl h1 h2
 clear hM
 go_enter func152,ntmps152
 go_wp2_with (first
  |(go_at_call 225;refine (CQ _).mono ?_;rintro e w1 ⟨rfl,rfl⟩)
  |(go_at_call 192;refine (CP.out _ _ hG).mono ?_;rintro e w2 ⟨hb2,z',b',rfl⟩))
 go_ret2
 exact FIN.out _ _ _ (Zaa.of_below hb2) (Or.inr ⟨_,_,rfl⟩)
theorem Zii.iface {f:Value}(h:Zii f):∃t y,f=.iface t y:=by
 rcases h with ⟨b,rfl⟩ | ⟨z,b,rfl⟩
 ·exact⟨_,_,rfl⟩
 ·exact⟨_,_,rfl⟩
theorem Z0r (D:Nat→Prop){mb k:Nat}{fns:List Fn}{w:World}(hM:Zfw w mb fns (k+1))(x y:Value)(hp:Zv6 x)(hy:∃o,y=.pointer o)(o:Option (PV×Nat))
  (CC:∀X,Zaa (·=mb) w X→Zfw X mb fns k→Calls prog 193 #[.pointer (some ⟨mb,0,none⟩),x,y] X (Zbl D mb fns o X)) :
  Calls prog 152 #[.pointer (some ⟨mb,0,none⟩),x,y] w (Zez D mb fns o w):=by
 obtain⟨oy,rfl⟩:=hy
 obtain⟨t,xx,a,rfl,mP⟩:=hp
 obtain⟨ad,n,cap,st,hst,c0,c1,cf,lr,_,hset⟩:=hM.facts
 have hk:=hM.hk
 have hsa:0≤st:=by omega
 have hsb:st≤19999:=by omega
 have f1:=cf 1
 have M1:=hset (st+1) k (by omega) (by omega)
 have T1:Zaa (·=mb) w (w.setCell ⟨mb,1,none⟩ (.int .i64 (st+1))):=(Zaa.refl (·=mb) w).setCell (p:=⟨mb,1,none⟩) (Or.inl rfl) _
 have C1:=CC _ T1 M1
 have hG:=M1.flt
 have hm:=hM.hm
 have CP:Hid (∀X f,Zzx X→Zii f→Calls prog 192 #[.int .i64 a,f] X _):=fun X f hX hf=>Zpw a f X hf hX
 have CQ:=fun X=>Znj a X
 have FIN:Hid (∀X Y u z b,o=none→Zaa (·=mb) w X→Below X.heap.size X Y→Zez D mb fns o w (.returned (.tuple #[u,atV2 z b])) Y):=fun X Y u z b h0 h1 h2=>rk_no h0 (h1.below_at h2) (Or.inr ⟨z,b,rfl⟩)
 clear hM hset CC hst cf M1
 go_enter func152,ntmps152
 go_wp2_with fail
 refine C1.mono ?_
 rintro e w1 ⟨ht1,⟨v,x1,k',ho,hwt,rfl,hv,hM1⟩ | ⟨ho,u,f,hf,rfl⟩⟩
 ·have T2:=T1.trans ht1
  have CW:=fun X (hX:Below w1.heap.size w1 X)=>Zse D v x1 X (hv.below hX) (by omega)
  have CW0:=CW w1 (Below.refl _ _)
  have hG1:=hM1.flt
  obtain⟨tx,yx,rfl⟩:=hv.iface
  by_cases hw:wtV v≤600
  ·rw[if_pos hw] at ho
   have FIN2:Hid (∀X,Below w1.heap.size w1 X→Zez D mb fns o w (.returned (.tuple #[.iface tx yx,.nilIface])) X):=fun X hX=>rk_ok ho (T2.below_at hX) (hv.below hX) (hM1.below hX)
   have hwi:((wtV v:Nat):Int)≤600:=by omega
   clear hv hM1 ho C1 CW CP FIN
   go_wp2_with (go_at_call 194;refine CW0.mono ?_;rintro e w2 ⟨rfl,hb2⟩)
   go_ret2
   exact FIN2.out _ hb2
  ·rw[if_neg hw] at ho
   have hwi:(600:Int)<((wtV v:Nat):Int):=by omega
   have HO:Hid (o=none):=ho
   clear hv hM1 ho C1 CW
   go_wp2_with (first
    |(go_at_call 194;refine CW0.mono ?_;rintro e w2 ⟨rfl,hb2⟩)
    |(go_at_call 225;refine (CQ _).mono ?_;rintro e w3 ⟨rfl,rfl⟩)
    |(go_at_call 192;refine (CP.out _ _ (hG1.below hb2) (Zb9 _)).mono ?_;rintro e w4 ⟨hb4,z',b',rfl⟩))
   go_ret2
   exact FIN.out _ _ _ _ _ HO.out (T2.below_at hb2) hb4
 ·have T2:=T1.trans ht1
  have hG1:=hG.touch ht1 hm
  have HF:Hid (Zii f):=hf
  have HO:Hid (o=none):=ho
  obtain⟨tf,yf,rfl⟩:=hf.iface
  clear hf ho C1
  go_wp2_with (first
   |(go_at_call 225;refine (CQ _).mono ?_;rintro e w3 ⟨rfl,rfl⟩)
   |(go_at_call 192;refine (CP.out _ _ hG1 HF.out).mono ?_;rintro e w4 ⟨hb4,z',b',rfl⟩))
  go_ret2
  exact FIN.out _ _ _ _ _ HO.out T2 hb4
structure XPo (fns:List Fn)(s:Env)(e:Ex):Prop where
 fine:Zgj s
 lit:Zjd e
 wf:WfE e
 sz:szE e≤7000
 sc:∃sc,ScE fns sc e
def RDo (mb:Nat)(fns:List Fn)(E:Nat→Env→Ex→Option (PV×Nat))(k0:Nat):Prop :=
 ∀(X:World) (D:Nat→Prop) (k:Nat) (e:Ex) (x:Value) (s:Env) (y:Value),k≤k0→¬ D mb→(∀g,X.heap.size≤g→D g)→Zfw X mb fns k→Zc8 X (·<mb) e x→SC X D s y→XPo fns s e →
  Calls prog 152 #[.pointer (some ⟨mb,0,none⟩),x,y] X (Zez D mb fns (E k s e) X)
def Zue (D:Nat→Prop)(mb:Nat)(fns:List Fn)(o:Option (List PV×Nat))(w:World)(e:Ending)(w':World):Prop :=
 Zaa (·=mb) w w'∧((∃vs sl cs k',o=some (vs,k')∧e=.returned (.tuple #[sl,.nilIface])∧Zar w' D 81 1 sl vs.length cs∧VLs w' D vs cs∧Zfw w' mb fns k')∨(o=none∧∃f,Zii f∧e=.returned (.tuple #[.slice none 0 0,f])))
def Zv3 (us:List PV):Option (List PV×Nat)→Option (List PV×Nat)
 | none=>none
 | some (vs,k)=>some (us++vs,k)
theorem Zw8 (o:Option (List PV×Nat)):Zv3 [] o=o:=by
 cases o with
 | none=>rfl
 | some x=>rfl
theorem Zt1 {E:Nat→Ex→Option (PV×Nat)}{k:Nat}{e:Ex}{es:List Ex}(h:E k e=none):evL E k (e::es)=none:=by simp only[evL,h]
theorem Z2t {E:Nat→Ex→Option (PV×Nat)}{k k1:Nat}{e:Ex}{es:List Ex}{v:PV}(us:List PV)(h:E k e=some (v,k1)):Zv3 us (evL E k (e::es))=Zv3 (us++[v]) (evL E k1 es):=by
 simp only[evL,h]
 cases evL E k1 es with
 | none=>rfl
 | some x=>simp[Zv3]
theorem Zc8.touch {w w':World}{mb:Nat}{e:Ex}{x:Value}(h:Zc8 w (·<mb) e x)(ht:Zaa (·=mb) w w'):Zc8 w' (·<mb) e x:=(h.keep fun k hk hlt=>ht.block k hlt (by have hk:k<mb:=hk;show ¬ k=mb;omega)).weaken fun k hk=>hk.1
theorem Zbj.touch {w w':World}{mb:Nat}{e:List Ex}{x:List Value}(h:Zbj w (·<mb) e x)(ht:Zaa (·=mb) w w'):Zbj w' (·<mb) e x:=(h.keep fun k hk hlt=>ht.block k hlt (by have hk:k<mb:=hk;show ¬ k=mb;omega)).weaken fun k hk=>hk.1
structure AL (D:Nat→Prop)(w wr:World)(mb:Nat)(fns:List Fn)(k:Nat)(ad:Option Addr)(cap:Nat)(vs:List PV)(cs:List Value):Prop where
 own:wr.ownsRow w.heap.size 81 1 (.slice ad vs.length cap) vs.length cs
 val:VLs wr (fun b=>D b∧some b≠(Value.slice ad vs.length cap).ownBlock) vs cs
 tch:Zaa (·=mb) w wr
 mch:Zfw wr mb fns k
theorem AL.row {D:Nat→Prop}{w wr:World}{mb k:Nat}{fns:List Fn}{ad:Option Addr}{cap:Nat}{vs:List PV}{cs:List Value}(h:AL D w wr mb fns k ad cap vs cs):∀g,(Value.slice ad vs.length cap).ownBlock=some g→w.heap.size≤g∧g<wr.heap.size:=fun g e=>h.own.lt g e
theorem AL.step {D:Nat→Prop}{w wr w4 w6:World}{mb k k4:Nat}{fns:List Fn}{ad:Option Addr}{cap:Nat}{vs:List PV}{cs:List Value}{o:Obj}{v:PV}{x v':Value}(h:AL D w wr mb fns k ad cap vs cs)(hD:¬ D mb)(hr:mb<w.heap.size)(ht:Zaa (·=mb) wr w4)(hM:Zfw w4 mb fns k4)
  (hv:VL w4 (fun b=>D b∧some b≠(Value.slice ad vs.length cap).ownBlock) v x) (hown:w6.ownsRow w.heap.size 81 1 v' (vs.length+1) (cs++[x])) (hgrow:(w4.alloc o).grownBy w6 (Value.slice ad vs.length cap).ownBlock) (hob:v'.ownBlock=(Value.slice ad vs.length cap).ownBlock∨v'.ownBlock=some (w4.alloc o).heap.size) :
  ∃ad' cap',v'=.slice ad' (vs++[v]).length cap'∧AL D w w6 mb fns k4 ad' cap' (vs++[v]) (cs++[x]):=by
 obtain⟨ad',cap',rfl⟩:=Zaf hown
 have sz:=ht.size
 have el:(vs++[v]).length=vs.length+1:=by simp
 refine⟨ad',cap',by rw[el],?_,?_,?_,?_⟩
 ·rw[el];exact hown
 ·rw[el]
  exact Zm3 (fun g hg=>Nat.lt_of_lt_of_le (h.row g hg).2 sz) (h.val.touch ht fun g hg e=>hD (by have e:g=mb:=e;rw[←e];exact hg.1)) hv hgrow hob
 ·exact ((h.tch.trans ht).alloc o).grown hgrow fun g hg=>(h.row g hg).1
 ·refine (hM.below (Zab w4 o)).same fun g hg=>hgrow.block g (by have:=hM.lt;simp;omega) fun e=>?_
  have:=(h.row g e.symm).1
  omega
theorem Zao.slice2 {w:World}{D:Nat→Prop}{e:TypeId}{size:Nat}{v:Value}{n:Nat}{xs:List Value}(h:Zao w D e size v n xs):∃ad cap,v=.slice ad n cap∧(n≤cap∨n=0):=by
 obtain⟨ad,cap,rfl⟩:=(Zar.of_row h).slice
 exact⟨ad,cap,rfl,(Zar.of_row h).capOr⟩
theorem al_ok {D:Nat→Prop}{mb:Nat}{fns:List Fn}{o:Option (List PV×Nat)}{w wr:World}{k:Nat}{ad:Option Addr}{cap:Nat}{vs:List PV}{cs:List Value}(h:AL D w wr mb fns k ad cap vs cs)(hD:∀g,w.heap.size≤g→D g)(ho:o=some (vs,k)):Zue D mb fns o w (.returned (.tuple #[.slice ad vs.length cap,.nilIface])) wr :=
 ⟨h.tch,Or.inl ⟨vs,_,cs,k,ho,rfl,(Zar.of_row (Zao.of_owns h.own)).weaken hD,h.val.weaken fun _g hg=>hg.1,h.mch⟩⟩
theorem al_no {D:Nat→Prop}{mb:Nat}{fns:List Fn}{o:Option (List PV×Nat)}{w wr:World}{f:Value}(ht:Zaa (·=mb) w wr)(ho:o=none)(hf:Zii f):Zue D mb fns o w (.returned (.tuple #[.slice none 0 0,f])) wr:=⟨ht,Or.inr ⟨ho,f,hf,rfl⟩⟩
theorem all_of {mb k0:Nat}{fns:List Fn}{E:Nat→Env→Ex→Option (PV×Nat)}(IH:RDo mb fns E k0)(good:Zg2 E)(w:World)(D:Nat→Prop)(k:Nat)(es:List Ex)(xs:List Value)(sl:Value)(s:Env)(y:Value)(hk:k≤k0)(hD:¬ D mb)(hD2:∀g,w.heap.size≤g→D g)(hM:Zfw w mb fns k)
  (hrow:Zao w (·≠mb) 141 1 sl es.length xs) (hrep:Zbj w (·<mb) es xs) (hs:SC w D s y) (hx:∀e∈es,XPo fns s e) (hl:es.length≤7000) :
  Calls prog 230 #[.pointer (some ⟨mb,0,none⟩),y,sl] w (Zue D mb fns (evL (fun k e=>E k s e) k es) w):=by
 have hmb:=hM.lt
 obtain⟨R,hR⟩:∃R,R=evL (fun k e=>E k s e) k es:=⟨_,rfl⟩
 have HR:Aside (R=evL (fun k e=>E k s e) k es):=hR
 rw[←hR]
 clear hR
 obtain⟨py,rfl⟩:∃o,y=.pointer o:=by
  cases s with
  | nil=>rw[SC] at hs;exact⟨_,hs⟩
  | cons a r=>rw[SC] at hs;obtain⟨b,_,_,_,h,_⟩:=hs;exact⟨_,h⟩
 obtain⟨ad,cap,rfl,hcap⟩:=hrow.slice2
 obtain⟨i0,hi,hz0,hz1,hz2⟩:=info_parts Tryz.infoVVal
 obtain⟨w1,hmk,own1,hg1⟩:=run_make_own (P:=prog) w w.heap.size 82 81 i0 .nilIface 1 underlying82 hi hz0 hz1 .i64 .i64 es.length (by rw[hz2];omega) (by unfold maxLen;omega) (Nat.le_refl _)
 have b1:Below w.heap.size w w1:=(Below.refl _ _).grown hg1 (Nat.le_refl _) (fun k hk=>by cases hk)
 clear hi hz0 hz1 hz2
 have hli:((es.length:Nat):Int)≤7000:=by omega
 go_enter func230,ntmps230
 go_wp2_with fail
 go_loopg [8,18] es.length (fun gh av iv wr=>∃(j k':Nat) (vs:List PV) (cs:List Value) (ad':Option Addr) (cap':Nat),gh=es.length-j∧iv=.int .i64 ((j:Nat):Int)∧av=.slice ad' vs.length cap'∧j≤es.length∧Aside (vs.length=j)∧k'≤k0∧AL D w wr mb fns k' ad' cap' vs cs∧Aside (R=Zv3 vs (evL (fun k e=>E k s e) k' (es.drop j))))
 case atStart=>exact⟨0,k,[],[],_,_,by omega,rfl,rfl,Nat.zero_le _,(show _=_ from rfl),hk,⟨own1,by rw[VLs],Zaa.of_below b1,hM.below b1⟩,by show _=_;rw[Zw8,List.drop_zero];exact HR.out⟩
 case round =>
  obtain⟨j,k',vs,cs,ad',cap',rfl,rfl,rfl,hj,hvl,hk',al,hP⟩:=hrel
  have hvb:vs.length≤7000:=by have:=hvl.out;omega
  by_cases hjl:j<es.length
  ·have hn0:0<es.length:=by omega
   have hdr:es.drop j=es[j]::es.drop (j+1):=List.drop_eq_getElem_cons hjl
   rw[hdr] at hP
   obtain⟨g,o,cp,hcap2,hgm,hc1,hc2,hcell⟩:=(Zar.of_row hrow).cell hn0
   cases hcap2
   have hxl:xs.length=es.length:=by have:=hrow.1;omega
   have glt:g<w.heap.size:=by
    rcases (Zar.of_row hrow).2 with ⟨_,h0⟩ | ⟨g',o',cap',cur,hv,_,hh,_⟩
    ·omega
    ·cases hv;exact Zag hh
   have hreE:=hrep.at j (by omega) hjl
   have hxo:=hx es[j] (List.getElem_mem hjl)
   have c0:wr.cell? ⟨g,o+j,none⟩=some (xs[j]'(by omega)):=al.tch.cell (by rw[hcell j (by omega)];exact List.getElem?_eq_getElem _) (by show ¬ g=mb;exact hgm)
   obtain⟨tx,yx,hxe⟩:=hreE.iface
   rw[hxe] at c0 hreE
   have hDD:∀q,wr.heap.size≤q→D q∧some q≠(Value.slice ad' vs.length cap').ownBlock:=fun q hq=>⟨hD2 q (by have:=al.tch.size;omega),fun e=>by have:=(al.row q e.symm).2;omega⟩
   have hsc:SC wr (fun b=>D b∧some b≠(Value.slice ad' vs.length cap').ownBlock) s (.pointer py):=(hs.keep fun q hq hlt=>al.tch.block q hlt (fun e=>hD (by have e:q=mb:=e;rw[←e];exact hq))).weaken fun q hq=>⟨hq.1,fun e=>by have:=(al.row q e.symm).1;have:=hq.2;omega⟩
   have CE:=IH wr (fun b=>D b∧some b≠(Value.slice ad' vs.length cap').ownBlock) k' es[j] _ s _ hk' (fun h=>hD h.1) hDD al.mch (hreE.touch al.tch) hsc hxo
   have GK:Hid (∀v k2,E k' s es[j]=some (v,k2)→k2≤k'):=fun v k2 h=>(good k' s es[j] v k2 hxo.fine hxo.lit h).2
   have NO:Hid (E k' s es[j]=none→R=none):=fun h=>by rw[hP.out,Zt1 h];rfl
   have GO:Hid (∀v k2,E k' s es[j]=some (v,k2)→Aside (R=Zv3 (vs++[v]) (evL (fun k e=>E k s e) k2 (es.drop (j+1))))):=fun v k2 h=>by show _=_;rw[hP.out,Z2t vs h]
   have hsz:w.heap.size≤wr.heap.size:=al.tch.size
   have hji:(j:Int)<((es.length:Nat):Int):=by omega
   unfold maxLen at hc2
   clear hcell hrow hrep hxe hreE hsc hx hxo hP hdr hs hmk own1 hg1 hcap
   generalize E k' s es[j]=Ev at *
   go_wp2_with fail
   refine CE.mono ?_
   rintro e w4 ⟨ht4,⟨v,x,k2,ho,rfl,hv,hM4⟩ | ⟨ho,u,f,hf,rfl⟩⟩
   ·obtain⟨tv,xv,rfl⟩:=hv.iface
    have own4:w4.ownsRow w.heap.size 81 1 (.slice ad' vs.length cap') vs.length cs:=Zay al.own fun q hq=>ht4.block q (al.row q hq).2 (by have:=(al.row q hq).1;show ¬ q=mb;omega)
    have hsz4:w.heap.size≤w4.heap.size:=Nat.le_trans hsz ht4.size
    have STH:Hid (∀w6 v' o,_):=fun w6 v' o=>AL.step (w6:=w6) (v':=v') (o:=o) al hD hmb ht4 hM4 hv
    have hk2:=GK.out _ _ ho
    have HM:=GO.out _ _ ho
    clear CE GK NO GO hv ho hM4 al hDD
    go_wp2_with (at_builtin;obtain⟨i0,hi,hz0,hz1,hz2⟩:=info_parts Tryz.infoVVal;refine wpList_append_own_at _ rfl _ _ 82 rfl w.heap.size 81 i0 .nilIface 1 16 underlying82 hi hz0 hz1 hz2 rfl (by decide) _ _ _ rfl (own4.alloc _) ⟨w4.heap.size,0,none⟩ 1 1 [.iface tv xv] rfl rfl (cell_one_new _ _ _) (fun x hx=>by simp at hx;subst hx;rfl) (by unfold maxLen;omega) (by omega) (by simp;omega) ?_;intro v' w6 hown' hgrow hnil hob;clear hi hz0 hz1 hz2)
    go_roundg (es.length-(j+1))
    case measure=>omega
    case rel =>
     obtain⟨ad2,cap2,rfl,al2⟩:=STH.out _ _ _ hown' hgrow hob
     exact⟨j+1,k2,_,_,ad2,cap2,rfl,by go_num,rfl,by omega,(by show _=_;have:=hvl.out;simp;omega),by omega,al2,HM⟩
   ·have HF:Hid (Zii f):=hf
    have HO:Hid (R=none):=NO.out ho
    obtain⟨tf,yf,rfl⟩:=hf.iface
    have ht5:=al.tch.trans ht4
    clear CE GK NO GO hf ho al hDD
    go_wp2_with fail
    go_ret2
    exact al_no ht5 HO.out HF.out
  ·have hjj:j=es.length:=by omega
   have hji:¬ (j:Int)<((es.length:Nat):Int):=by omega
   have HO:Hid (R=some (vs,k')):=by
    have h2:=hP.out
    rw[hjj,List.drop_length] at h2
    rw[h2]
    show Zv3 vs (some ([],k'))=_
    simp[Zv3]
   clear hmk own1 hg1 hrow hrep hs hx IH hP hcap
   subst hjj
   go_wp2_with fail
   go_ret2
   exact al_ok al hD2 HO.out
end Go.Proofs.YtliapghpeoaonaaGreatDoor
