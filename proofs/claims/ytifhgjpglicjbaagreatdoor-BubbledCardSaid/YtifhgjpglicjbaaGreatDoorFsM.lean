/-
  Frames, the program: show.
-/
import Derived.Test.YtifhgjpglicjbaaGreatDoorFsH
import Derived.Deep.DeepCutAuto
set_option maxHeartbeats 4000000
set_option maxRecDepth 8000
namespace Go.Proofs.YtifhgjpglicjbaaGreatDoor
open Go.Proofs.Tryz
open Go.RowKit Go.Lib Go.MuLone
attribute [local go_sem ↓] Go.wp_at_zero Go.wp_at_succ
theorem AppAt.put {w w':World}{ab lb g':Nat}{fns:List Fn}{lk:Int}{c:AC}{a:PA}{n n':An}(h:AppAt w ab fns lk c a)(hn:AnD w (NQ c.qv a.foe) n)(hlb:ab<lb)(ht:Touch (fun k=>lb≤k∧k∈blocksA n) w w')(rk:RK w w')(hn':AnD w' (NQ c.qv a.foe) n')(hwf:WfA n'∧sizeA n'≤100)(hnm:NmA g' n')(ho:∀b∈blocksA n,¬ a.S b)(ho':∀b∈blocksA n',¬ a.S b):
  AppAt ((w'.setCell ⟨ab,7,none⟩ (.int .i64 ((g':Nat):Int))).setCell ⟨ab,6,none⟩ n'.val) ab fns lk c { a with shown:=some n',greatest:=g' }∧Below ab w ((w'.setCell ⟨ab,7,none⟩ (.int .i64 ((g':Nat):Int))).setCell ⟨ab,6,none⟩ n'.val):=by
 have hs:=h.st
 have hm:=hs.hm
 have hab:w'.heap[ab]?=some (.cells (appCells lk c a) 92):=(ht.block ab h.lt fun hq=>by omega).trans h.blk
 have hlow:∀q,q<ab→w'.heap[q]?=w.heap[q]?:=fun q hq=>ht.block q (by have:=h.lt;omega) fun hq=>by omega
 have S0:AppS w' ab fns c { a with shown:=none }:=by
  refine⟨(hs.prog.keep fun q hq _=>hlow q hq.1).weaken fun q hq=>hq.1,hs.model.tyKeep rk.kv,?_,trivial,hs.flt.same fun q hq=>hlow q (by omega),hs.num.same fun q hq=>hlow q (by omega),hm,hs.fm,hs.fq,(fun n hn=>nomatch hn),(fun n hn=>nomatch hn),hs.hq,?_⟩
  rotate_left
  ·exact⟨fun q hq=>⟨by have:=(hs.out.keep q hq).1;have:=ht.size;omega,(ht.block q (hs.out.keep q hq).1 fun hb=>ho q hb.2 hq).trans (hs.out.keep q hq).2⟩,hs.out.sA,(fun n hn=>nomatch hn),hs.out.sQ,fun q hq=>by have:=hs.out.fo q hq;have:=ht.size;omega⟩
  obtain⟨cs,h1,h2⟩:=hs.queue
  refine⟨cs,owns_keep h1 fun q hq=>ht.block q (h1.lt q hq).2 fun hb=>?_,h2.tyKeep rk.kv⟩
  obtain⟨cur,h3⟩:=owns_block h1 hq
  obtain⟨c1,t,h4,h5⟩:=hn.ty q hb.2
  rw[h3] at h4
  cases h4
  revert h5
  decide
 have rk1:=RK.setCell (j:=7) hab (by decide) (.int .i64 ((g':Nat):Int))
 have hab1:=set_block (j:=7) hab (.int .i64 ((g':Nat):Int))
 have rk2:=RK.setCell (j:=6) hab1 (by decide) n'.val
 have ht2:Touch (·=ab) w' ((w'.setCell ⟨ab,7,none⟩ (.int .i64 ((g':Nat):Int))).setCell ⟨ab,6,none⟩ n'.val):=((Touch.refl (·=ab) w').setCell (p:=⟨ab,7,none⟩) (Or.inl rfl) _).setCell (p:=⟨ab,6,none⟩) (Or.inl rfl) _
 have S1:=S0.turn hab ht2 (rk1.trans rk2)
 refine⟨⟨?_,⟨S1.prog,S1.model,S1.queue,?_,S1.flt,S1.num,hm,hs.fm,hs.fq,(fun n hn=>by cases hn;exact hwf),(fun n hn=>by cases hn;exact hnm),hs.hq,⟨S1.out.keep,S1.out.sA,(fun n hn=>by cases hn;exact ho'),S1.out.sQ,S1.out.fo⟩⟩⟩,?_⟩
 ·rw[set_block (j:=6) hab1]
  rfl
 ·refine AnD.keep (rk1.trans rk2) (fun b hb=>ht2.block b (hn'.lt b hb) fun e=>?_) hn'
  obtain⟨c1,t,h4,h5⟩:=hn'.ty b hb
  rw[show b=ab from e,hab] at h4
  cases h4
  revert h5
  decide
 ·refine⟨ht.os,ht.tape,ht.output,by have:=ht.size;simpa[World.setCell] using this,fun q hq=>?_⟩
  rw[ht2.block q (by have:=ht.size;have:=h.lt;omega) (by show ¬ q=ab;omega)]
  exact hlow q hq
theorem NQ.new {w:World}{ab:Nat}{fns:List Fn}{c:AC}{a:PA}(h:AppS w ab fns c a):∀g,w.heap.size≤g→NQ c.qv a.foe g:=fun g hg=>⟨fun e=>by
 obtain⟨cs,h1,_⟩:=h.queue
 have:=h1.lt g e
 omega,fun e=>by have:=h.out.fo g e;omega⟩
def viewB:ByteArray:=⟨#[118,105,101,119]⟩
def shP (w:World)(ab:Nat)(fns:List Fn)(lk:Int)(c:AC)(a:PA)(k:Ln)(z:Nat)(e:Ending)(w':World):Prop :=
 ∃n F,e=.returned .nilIface∧Made k n F∧Below ab w w'∧AppAt w' ab fns lk c { a with shown:=some (numA n (bareO a.shown) a.greatest).1,greatest:=(numA n (bareO a.shown) a.greatest).2,lazies:=a.lazies+z }
theorem show_ok {fns:List Fn}(hP:ProgOk fns)(hU:UniqF fns){w:World}{ab:Nat}{lk:Int}{c:AC}{a:PA}(h:AppAt w ab fns lk c a)(v:PV)(f:Nat)(k:Ln)(c' z':Nat)(e1:reckP fns viewB.data.toList [a.model]=some v)(e2:lookA fns f 0 0 v a.shown=some (k,c',z'))(hg:a.greatest≤900000000)(hz:a.lazies≤900000000):
  Calls prog 34 #[.pointer (some ⟨ab,0,none⟩)] w (shP w ab fns lk c a k z'):=by
 have hm:=h.st.hm
 have hlt:=h.lt
 have hD:=NQ.new h.st
 have hfv:=reckP_fine hP (fun u hu=>by simp at hu;rw[hu];exact h.st.fm) e1
 have gd:=lookA_good fns f _ _ _ _ _ _ _ e2
 have CN:Hid (∀X (sl:Value),Below w.heap.size w X→SegAt X (NQ c.qv a.foe) 74 1 sl 1 [c.xm]→Calls prog 28 #[.agg #[.slice c.pa c.pn c.pc],.string viewB,sl] X fun e w'=>∃tx xx,e=.returned (.tuple #[.iface tx xx,.nilIface])∧VL w' (NQ c.qv a.foe) v (.iface tx xx)∧Below w.heap.size w w'):=fun X sl hX hs=>by
  have hXa:=h.below hX
  refine (named_D hP hU X (PD ab a) (NQ c.qv a.foe) viewB [a.model] [c.xm] sl c.pa c.pn c.pc hXa.st.prog hXa.st.flt (by have:=hX.size;omega) hs (VLs.one hXa.st.model) (fun u hu=>by simp at hu;rw[hu];exact h.st.fm) (by simp) (fun g hg=>hD g (by have:=hX.size;omega))).mono fun e w' hp=>?_
  rw[e1] at hp
  obtain⟨hb,⟨v',x,ho,he,hv⟩ | ⟨ho,_⟩⟩:=hp
  ·cases ho
   obtain⟨tx,xx,rfl⟩:=hv.iface
   exact⟨tx,xx,he,hv,hX.trans (hb.mono hX.size)⟩
  ·cases ho
 have CL:Hid (∀X x,Below w.heap.size w X→VL X (NQ c.qv a.foe) v x→Calls prog 59 #[.agg #[.slice c.pa c.pn c.pc],x,valN a.shown] X (loP (NQ c.qv a.foe) X k z')):=fun X x hX hx=>by
  have hXa:=h.below hX
  refine Look_ok (NQ c.qv a.foe) hP hU f c.pa c.pn c.pc v x a.shown k c' z' X e2 (hXa.st.prog.weaken fun _ _=>trivial) hXa.st.flt hXa.st.num (by have:=hX.size;omega) (fun g hg=>hD g (by have:=hX.size;omega)) hx hfv hXa.st.shown fun n hn=>⟨(h.st.ok n hn).1,(h.st.ok n hn).2,fun b hb=>?_⟩
  have hs:=hXa.st.shown
  rw[hn] at hs
  exact AnD.lt (n:=n) hs b hb
 have c2:∀X,Below w.heap.size w X→X.cell? ⟨ab,2,none⟩=some (.slice c.pa c.pn c.pc)∧X.cell? ⟨ab,3,none⟩=some c.xm∧X.cell? ⟨ab,6,none⟩=some (valN a.shown)∧X.cell? ⟨ab,7,none⟩=some (.int .i64 ((a.greatest:Nat):Int))∧X.cell? ⟨ab,12,none⟩=some (.int .i64 ((a.lazies:Nat):Int))∧∀j,X.frozen? ⟨ab,j,none⟩=false:=fun X hX=>by
  have hXa:=h.below hX
  exact⟨hXa.cell 2,hXa.cell 3,hXa.cell 6,hXa.cell 7,hXa.cell 12,hXa.frozen⟩
 have LZ:Hid (∀X,Below w.heap.size w X→AppAt (X.setCell ⟨ab,12,none⟩ (.int .i64 (((a.lazies+z':Nat)):Int))) ab fns lk c { a with lazies:=a.lazies+z' }):=fun X hX=>by
  have hXa:=h.below hX
  have hs:=hXa.set 12 (.int .i64 (((a.lazies+z':Nat)):Int))
  exact⟨hs.1,⟨hs.2.1.prog,hs.2.1.model,hs.2.1.queue,hs.2.1.shown,hs.2.1.flt,hs.2.1.num,hm,h.st.fm,h.st.fq,h.st.ok,h.st.nm,h.st.hq,⟨hs.2.1.out.keep,hs.2.1.out.sA,hs.2.1.out.sN,hs.2.1.out.sQ,hs.2.1.out.fo⟩⟩⟩
 have NUM:Hid (∀X0 X n F lb,Below w.heap.size w X0→Below X0.heap.size X0 X→AnD X (NQ c.qv a.foe) n→Made k n F→F.Nodup→X0.heap.size≤lb→lb≤X.heap.size→(∀b∈F,lb≤b∧b<X.heap.size) →
   AppAt (X.setCell ⟨ab,12,none⟩ (.int .i64 (((a.lazies+z':Nat)):Int))) ab fns lk c { a with lazies:=a.lazies+z' }∧∀Y,Below (X.setCell ⟨ab,12,none⟩ (.int .i64 (((a.lazies+z':Nat)):Int))).heap.size (X.setCell ⟨ab,12,none⟩ (.int .i64 (((a.lazies+z':Nat)):Int))) Y→Calls prog 60 #[n.val,valN a.shown,.int .i64 ((a.greatest:Nat):Int)] Y fun e w'=>e=.returned (.int .i64 (((numA n (bareO a.shown) a.greatest).2:Nat):Int))∧shP w ab fns lk c a k z' (.returned .nilIface) ((w'.setCell ⟨ab,7,none⟩ (.int .i64 (((numA n (bareO a.shown) a.greatest).2:Nat):Int))).setCell ⟨ab,6,none⟩ n.val)∧(∀j,w'.frozen? ⟨ab,j,none⟩=false)∧(∃x,w'.cell? ⟨ab,7,none⟩=some x)∧∃x,w'.cell? ⟨ab,6,none⟩=some x):=fun X0 X n F lb hX0 hX hn hM hN hlb hlb2 hF=>by
  have hXw:Below w.heap.size w X:=hX0.trans (hX.mono hX0.size)
  have hA3:=LZ.out X hXw
  refine⟨hA3,fun Y hY=>?_⟩
  have hXa:=h.below hXw
  have rk:=RK.setCell (j:=12) hXa.blk (by decide) (.int .i64 (((a.lazies+z':Nat)):Int))
  have hneq:∀b∈blocksA n,b≠ab:=fun b hb e=>by
   obtain⟨c1,t,h4,h5⟩:=hn.ty b hb
   rw[e,hXa.blk] at h4
   cases h4
   revert h5
   decide
  have hn3:AnD (X.setCell ⟨ab,12,none⟩ (.int .i64 (((a.lazies+z':Nat)):Int))) (NQ c.qv a.foe) n:=hn.keep rk fun b hb=>Below.heap_setCell X ⟨ab,12,none⟩ _ b (hneq b hb)
  have hok:OldOk lb a.shown:=fun m hm'=>⟨(h.st.ok m hm').1,(h.st.ok m hm').2,fun b hb=>by
   have hs:=(h.below hX0).st.shown
   rw[hm'] at hs
   have:=AnD.lt (n:=m) hs b hb
   omega⟩
  have lf:=look_facts hP f _ _ _ _ _ _ _ e2 hfv (fun m hm'=>(h.st.ok m hm').1) n F hM
  have hfr:=Made.fr (lb:=lb) hM (look_old (·<lb) f _ _ _ _ _ _ _ e2 fun m hm'=>(hok m hm').2.2) fun b hb=>(hF b hb).1
  have hsz:sizeA n≤100:=by rw[hM.size];omega
  have hsz3:(X.setCell ⟨ab,12,none⟩ (.int .i64 (((a.lazies+z':Nat)):Int))).heap.size=X.heap.size:=by simp[World.setCell]
  have hA4:=hA3.below hY
  have hn4:=hn3.below hY
  have hYs:=hY.size
  refine (Number_ok (NQ c.qv a.foe) lb n a.shown a.greatest Y hn4 lf.2.2 (lf.1 lb fun b hb=>(hF b hb).1) (by rw[hfr];exact hN) (hA4.st.shown.weaken fun _ _=>trivial) hok (by omega) hsz (by omega)).mono fun e w' hp=>?_
  obtain⟨p1,p2,p3,p4⟩:=hp
  have nb:=numA_blocks n (bareO a.shown) a.greatest
  have hbare:NmO a.greatest (bareO a.shown):=fun m hm'=>by
   cases hs:a.shown with
   | none=>rw[hs] at hm';cases hm'
   | some y=>rw[hs] at hm';cases hm';exact nmA_bare (h.st.nm y hs)
  have hX0s:=hX0.size
  have hno:∀b∈blocksA n,¬ a.S b:=Made.all hM (look_old (fun b=>¬ a.S b) f _ _ _ _ _ _ _ e2 fun m hm'=>h.st.out.sN m hm') fun b hb e=>by
   have:=(h.st.out.keep b e).1
   have:=(hF b hb).1
   omega
  have put:=hA4.put (lb:=lb) hn4 (by omega) p2 p3 p4 ⟨nb.2.2 lf.2.2,by rw[nb.2.1];exact hsz⟩ (numA_nm n (bareO a.shown) a.greatest hbare) hno (by rw[nb.1];exact hno)
  rw[numA_val] at put
  have hbw:Below ab w (X.setCell ⟨ab,12,none⟩ (.int .i64 (((a.lazies+z':Nat)):Int))):=(hXw.mono (by omega)).trans (hXa.set 12 _).2.2
  have hbY:Below ab w Y:=hbw.trans (hY.mono (by omega))
  have hw':w'.heap[ab]?=some _:=(p2.block ab hA4.lt fun hq=>by omega).trans hA4.blk
  refine⟨p1,⟨n,F,rfl,hM,hbY.trans put.2,put.1⟩,fun j=>?_,?_,?_⟩
  ·unfold World.frozen?;rw[hw'];rfl
  ·exact⟨_,by unfold World.cell?;rw[hw'];rfl⟩
  ·exact⟨_,by unfold World.cell?;rw[hw'];rfl⟩
 have SEG:Hid (∀X,Below w.heap.size w X→SegAt (X.alloc (.cells #[c.xm] 74)) (NQ c.qv a.foe) 74 1 (.slice (some ⟨X.heap.size,0,none⟩) 1 1) 1 [c.xm]):=fun X hX =>
  ⟨rfl,Or.inr ⟨X.heap.size,0,1,#[c.xm],rfl,hD _ (by have:=hX.size;omega),heap_alloc_new _ _,Nat.le_refl _,by unfold maxLen;omega,by simp,by simp⟩⟩
 obtain⟨tm,ym,hxm⟩:=h.st.model.iface
 have zi:((z':Nat):Int)≤100:=by omega
 have ai:((a.lazies:Nat):Int)≤900000000:=by omega
 have ez:((a.lazies+z':Nat):Int)=((a.lazies:Nat):Int)+((z':Nat):Int):=by omega
 rw[ez] at NUM
 rw[hxm] at SEG CN
 have C2:Hid (∀X,Below w.heap.size w X→_):=c2
 rw[hxm] at C2
 clear c2 LZ h hD hfv gd e1 e2 hxm
 obtain⟨c2,c3,c6,c7,c12,cf⟩:=C2.out w (Below.refl _ _)
 have vv:viewB=⟨#[118,105,101,119]⟩:=rfl
 rw[vv] at CN
 generalize hsv:valN a.shown=sv at *
 have CNa:Calls prog 28 #[.agg #[.slice c.pa c.pn c.pc],.string ⟨#[118,105,101,119]⟩,.slice (some ⟨w.heap.size,0,none⟩) 1 1] (w.alloc (.cells #[.iface tm ym] 74)) _:=CN.out _ _ ((Below.refl _ _).alloc (Nat.le_refl _) _) (SEG.out w (Below.refl _ _))
 have CNb:Calls prog 28 #[.agg #[.slice c.pa c.pn c.pc],.string ⟨#[118,105,101,119]⟩,.slice (some ⟨w.heap.size,0,none⟩) 1 1] (w.drew.alloc (.cells #[.iface tm ym] 74)) _:=CN.out _ _ ((Below.refl w.heap.size w).drew.alloc (Nat.le_refl _) _) (SEG.out w.drew (Below.refl _ _).drew)
 go_enter func34,ntmps34
 go_upto_region 1 with fail
 go_cut [3,4] (fun gv ev wx=>∃tx xx,gv=.iface tx xx∧ev=.nilIface∧VL wx (NQ c.qv a.foe) v (.iface tx xx)∧Below w.heap.size w wx)
 case first =>
  go_region_with (go_at_call 28;(first | refine CNa.mono ?_ | refine CNb.mono ?_);rintro e w2 ⟨tx,xx,rfl,hvx,hb2⟩)
  all_goals (go_wp2_with fail)
  all_goals go_meet
  all_goals exact⟨tx,xx,rfl,rfl,hvx,hb2⟩
 case rest =>
  obtain⟨tx,xx,rfl,rfl,hvx,hb2⟩:=hcut
  obtain⟨d2,d3,d6,d7,d12,df⟩:=C2.out wc hb2
  have CLa:=CL.out wc _ hb2 hvx
  have CLb:=CL.out wc.drew _ hb2.drew (hvx.below (Below.refl _ _).drew)
  clear CN CNa CNb SEG c2 c3 c6 c7 c12 cf hvx CL
  go_upto_region 4 with fail
  go_cut [5,6,4] (fun gv lv ev wx=>∃X0 n F lb,gv=n.val∧lv=.int .i64 ((z':Nat):Int)∧ev=.nilIface∧Below w.heap.size w X0∧Below X0.heap.size X0 wx∧AnD wx (NQ c.qv a.foe) n∧Made k n F∧F.Nodup∧X0.heap.size≤lb∧lb≤wx.heap.size∧∀b∈F,lb≤b∧b<wx.heap.size)
  case first =>
   go_region_with (go_at_call 59;(first | refine CLa.mono ?_ | refine CLb.mono ?_);rintro e w3 ⟨hb3,n,F,lb,rfl,hn,hM,hN,hlb,hF,_⟩;obtain⟨tn,bn,hv⟩:=n.val_iface;rw[hv])
   all_goals (go_wp2_with fail)
   all_goals go_meet
   all_goals first
    | exact⟨wc,n,F,lb,hv.symm,rfl,rfl,hb2,hb3,hn,hM,hN,hlb.1,hlb.2,hF⟩
    | exact⟨wc.drew,n,F,lb,hv.symm,rfl,rfl,hb2.drew,hb3,hn,hM,hN,hlb.1,hlb.2,hF⟩
  case rest =>
   obtain⟨X0,n,F,lb,rfl,rfl,rfl,g1,g2,g3,g4,g5,g6,g7,g8⟩:=hcut
   obtain⟨hA3,CNu⟩:=NUM.out X0 _ n F lb g1 g2 g3 g4 g5 g6 g7 g8
   obtain⟨d2,d3,d6,d7,d12,df⟩:=C2.out _ (g1.trans (g2.mono g1.size))
   obtain⟨tn,bn,hv⟩:=n.val_iface
   rw[hv] at CNu ⊢
   have CN0:=CNu _ (Below.refl _ _)
   have CN1:=CNu _ (Below.refl _ _).drew
   clear hA3 NUM g1 g2 g3 g4 g5 g6 g7 g8 C2 CNu
   go_wp2_with fail
   go_region_with (go_at_call 60;(first | refine CN0.mono ?_ | refine CN1.mono ?_);rintro e w5 ⟨rfl,hsp,hfz,⟨x7,c7⟩,⟨x6,c6⟩⟩;have FI:Hid _:=hsp;clear hsp;have hf7:=hfz 7;have hf6:=hfz 6)
   all_goals (go_wp2_with fail)
   all_goals go_ret
   all_goals (obtain⟨n1,F1,_,m1,m2,m3⟩:=FI.out;exact⟨n1,F1,rfl,m1,m2,m3⟩)
end Go.Proofs.YtifhgjpglicjbaaGreatDoor
