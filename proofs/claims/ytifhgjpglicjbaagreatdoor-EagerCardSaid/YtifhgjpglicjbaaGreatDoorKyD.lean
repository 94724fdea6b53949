/-
  The keyed program: the first frame, of any keys. Plain.
-/
import Derived.Test.YtifhgjpglicjbaaGreatDoorFtH
import Derived.Test.YtifhgjpglicjbaaGreatDoorReQ
import Derived.Test.YtifhgjpglicjbaaGreatDoorMvA
set_option maxHeartbeats 4000000
set_option maxRecDepth 8000
namespace Go.Proofs.YtifhgjpglicjbaaGreatDoor
open Go.Proofs.Tryz
open Go.Lib
theorem ky_listN (way:Bool)(l:List (List UInt8))(f:Nat):∀(r:List (List UInt8)) (i c z:Nat),(∀x∈r,KyX x)→c+3*r.length≤100 →
  ∃ks c' z',lookL (lookA (kyF way) (f+3)) (.ky [117,108] l) none i c z (r.map (ndV way))=some (ks,c',z')∧c'≤c+3*r.length∧z'=z+(if way=true then frsh [] r else 0)∧∀ms F g,MadeL ks ms F→KNs way (nxt [] g r).1 (numAs (.ky [117,108] l) none i ms g).1∧(numAs (.ky [117,108] l) none i ms g).2=(nxt [] g r).2
 | [],i,c,z,_,hc=>by
  refine⟨[],c,z,rfl,by omega,by simp[frsh],fun ms F g hM=>?_⟩
  rw[MadeL] at hM
  obtain⟨rfl,_⟩:=hM
  exact⟨KNs.nil,rfl⟩
 | x::r,i,c,z,hx,hc=>by
  simp only[List.length_cons] at hc
  have hop:oppA (.ky [117,108] l) none i=none:=rfl
  obtain⟨k,c1,z1,e1,e2,e3,e4⟩:=ky_one way f c z x none none (by omega) (hx x (by simp)) (Or.inl ⟨rfl,rfl⟩)
  obtain⟨ks,c2,z2,f1,f2,f3,f4⟩:=ky_listN way l f r (i+1) c1 z1 (fun q hq=>hx q (by simp[hq])) (by omega)
  refine⟨k::ks,c2,z2,?_,by simp only[List.length_cons];omega,?_,fun ms F g hM=>?_⟩
  ·simp only[List.map_cons,lookL,hop,e1]
   rw[f1]
  ·rw[f3,e3,frsh_cons]
   cases way
   ·simp
   ·simp
    omega
  ·rw[MadeL] at hM
   obtain⟨m,ms,F1,F2,rfl,_,h1,h2⟩:=hM
   have g1:=e4 m F1 g h1
   have g2:=f4 ms F2 (nx1 x none g).2 h2
   have hb:bareO none=none:=rfl
   have hf:([]:List Ent).find? (·.1==x)=none:=rfl
   simp only[numAs,nxt,hop,hf]
   rw[g1.2]
   exact⟨KNs.cons g1.1 g2.1,g2.2⟩
theorem ky_frameN (way:Bool)(l:List (List UInt8))(hl:l.Nodup)(hn:l.length≤12)(hx:∀x∈l,KyX x):
  ∃k c' z',lookA (kyF way) 10 0 0 (vwV way l) none=some (k,c',z')∧z'=(if way=true then frsh [] l else 0)∧∀n F,Made k n F→∃b ns,numA n (bareO none) 0=(ulA b (nxt [] 1 l).1 ns,(nxt [] 1 l).2)∧KNs way (nxt [] 1 l).1 ns:=by
 obtain⟨ks,c',z',e1,e2,e3,e4⟩:=ky_listN way l 6 l 0 1 0 hx (by omega)
 refine⟨.ky [117,108] [] [] l ks,c',z',?_,by omega,fun n F hM=>?_⟩
 ·have hp:=ky_pairs way l [] [] (by simpa using hl)
  simp only[List.nil_append] at hp
  have hw:wordN [117,108]=true:=by decide
  rw[vwV,lookA_lst _ _ _ _ _ (by omega)]
  simp only[lookX,headV]
  rw[if_neg (by decide),if_pos trivial]
  simp only[lookK,elOf]
  rw[if_pos hw]
  simp only[attrL,Option.map_some,hp,Nat.zero_add]
  rw[e1]
 ·rw[Made] at hM
  obtain⟨b,ns,G,rfl,_,h1⟩:=hM
  have hk:=e4 ns G 1 h1
  have em:markA (.ky [117,108] l) none 0=(⟨1,none⟩,1):=rfl
  have hb:bareO none=none:=rfl
  refine⟨b,_,?_,hk.1⟩
  rw[hb]
  simp only[numA,em]
  rw[hk.2]
  simp only[ulA,nxt_keys]
end Go.Proofs.YtifhgjpglicjbaaGreatDoor
namespace Go.Proofs.YtifhgjpglicjbaaGreatDoor
open Go.Proofs.Tryz
open Go.RowKit Go.Lib Go.MuLone
attribute [local go_sem ↓] Go.wp_at_zero Go.wp_at_succ
theorem cntF_ok {fns:List Fn}{w:World}{ab:Nat}{lk:Int}{c:AC}{a:PA}(h:AppAt w ab fns lk c a){f:Value}(hf:FltW f)(hfa:a.faults≤900000000):
  Calls prog 35 #[.pointer (some ⟨ab,0,none⟩),f] w fun e w'=>e=.returned (.tuple #[])∧Below ab w w'∧AppAt w' ab fns lk c { a with faults:=a.faults+1 }:=by
 obtain⟨af,haf⟩:=h.st.flt.fl
 have hlt:=h.lt
 have IS:=is_flt hf af w haf
 have FIN:Hid (∀X,Below w.heap.size w X→X.cell? ⟨ab,9,none⟩=some (.int .i64 ((a.faults:Nat):Int))∧X.frozen? ⟨ab,9,none⟩=false∧Below ab w (X.setCell ⟨ab,9,none⟩ (.int .i64 ((a.faults:Int)+1)))∧AppAt (X.setCell ⟨ab,9,none⟩ (.int .i64 ((a.faults:Int)+1))) ab fns lk c { a with faults:=a.faults+1 }):=fun X hX=>by
  have hXa:=h.below hX
  have e3:((a.faults:Int)+1)=((a.faults+1:Nat):Int):=by omega
  rw[e3]
  exact⟨hXa.cell 9,hXa.frozen 9,(hX.mono (by omega)).trans (hXa.set 9 _).2.2,hXa.upd 9 _ rfl rfl rfl rfl rfl⟩
 obtain⟨t,y,rfl⟩:=hf.iface
 have fi:((a.faults:Nat):Int)≤900000000:=by omega
 unfold errVal at haf IS
 clear h hf
 go_enter func35,ntmps35
 go_wp2_with (go_at_call 12;refine IS.mono ?_;rintro e w1 ⟨rfl,hb1⟩;obtain⟨d9,f9,hb,hA⟩:=FIN.out _ hb1;have FI:Hid _:=(⟨hb,hA⟩:_∧_);clear hb hA hb1 IS)
 exact bodyPost_end (v:=.tuple #[]) (by simp[results,results35,go_sem]) rfl ⟨rfl,FI.out⟩
theorem show_no {fns:List Fn}(hP:ProgOk fns)(hU:UniqF fns){w:World}{ab:Nat}{lk:Int}{c:AC}{a:PA}(h:AppAt w ab fns lk c a)(e1:reckP fns viewB.data.toList [a.model]=none):
  Calls prog 34 #[.pointer (some ⟨ab,0,none⟩)] w fun e w'=>∃f,FltV f∧e=.returned f∧Below w.heap.size w w':=by
 have hm:=h.st.hm
 have hlt:=h.lt
 have hD:=NQ.new h.st
 have CN:Hid (∀X (sl:Value),Below w.heap.size w X→SegAt X (NQ c.qv a.foe) 74 1 sl 1 [c.xm]→Calls prog 28 #[.agg #[.slice c.pa c.pn c.pc],.string viewB,sl] X fun e w'=>∃u f,FltV f∧e=.returned (.tuple #[u,f])∧Below w.heap.size w w'):=fun X sl hX hs=>by
  have hXa:=h.below hX
  refine (named_D hP hU X (PD ab a) (NQ c.qv a.foe) viewB [a.model] [c.xm] sl c.pa c.pn c.pc hXa.st.prog hXa.st.flt (by have:=hX.size;omega) hs (VLs.one hXa.st.model) (fun u hu=>by simp at hu;rw[hu];exact h.st.fm) (by simp) (fun g hg=>hD g (by have:=hX.size;omega))).mono fun e w' hp=>?_
  rw[e1] at hp
  obtain⟨hb,⟨v',x,ho,he,hv⟩ | ⟨ho,u,f,hf,he⟩⟩:=hp
  ·cases ho
  ·exact⟨u,f,hf,he,hX.trans (hb.mono hX.size)⟩
 have SEG:Hid (∀X,Below w.heap.size w X→SegAt (X.alloc (.cells #[c.xm] 74)) (NQ c.qv a.foe) 74 1 (.slice (some ⟨X.heap.size,0,none⟩) 1 1) 1 [c.xm]):=fun X hX =>
  ⟨rfl,Or.inr ⟨X.heap.size,0,1,#[c.xm],rfl,hD _ (by have:=hX.size;omega),heap_alloc_new _ _,Nat.le_refl _,by unfold maxLen;omega,by simp,by simp⟩⟩
 obtain⟨tm,ym,hxm⟩:=h.st.model.iface
 have c2:w.cell? ⟨ab,2,none⟩=some (.slice c.pa c.pn c.pc):=h.cell 2
 have c3:w.cell? ⟨ab,3,none⟩=some c.xm:=h.cell 3
 rw[hxm] at SEG CN c3
 have vv:viewB=⟨#[118,105,101,119]⟩:=rfl
 rw[vv] at CN
 have CNa:Calls prog 28 #[.agg #[.slice c.pa c.pn c.pc],.string ⟨#[118,105,101,119]⟩,.slice (some ⟨w.heap.size,0,none⟩) 1 1] (w.alloc (.cells #[.iface tm ym] 74)) _:=CN.out _ _ ((Below.refl _ _).alloc (Nat.le_refl _) _) (SEG.out w (Below.refl _ _))
 have CNb:Calls prog 28 #[.agg #[.slice c.pa c.pn c.pc],.string ⟨#[118,105,101,119]⟩,.slice (some ⟨w.heap.size,0,none⟩) 1 1] (w.drew.alloc (.cells #[.iface tm ym] 74)) _:=CN.out _ _ ((Below.refl w.heap.size w).drew.alloc (Nat.le_refl _) _) (SEG.out w.drew (Below.refl _ _).drew)
 clear h hD e1 hxm CN SEG vv
 go_enter func34,ntmps34
 go_upto_region 1 with fail
 go_cut [3,4] (fun gv ev wx=>FltV ev∧Below w.heap.size w wx)
 case first =>
  go_region_with (go_at_call 28;(first | refine CNa.mono ?_ | refine CNb.mono ?_);rintro e w2 ⟨u,f,hf,rfl,hb2⟩)
  all_goals (go_wp2_with fail)
  all_goals go_meet
  all_goals exact⟨hf,hb2⟩
 case rest =>
  obtain⟨hf,hb2⟩:=hcut
  obtain⟨t,y,hy⟩:=FltW.iface (Or.inl hf)
  have FI:Hid _:=(⟨hf,hb2⟩:_∧_)
  clear hf hb2 CNa CNb
  subst hy
  go_wp2_with fail
  go_ret
  exact⟨_,FI.out.1,rfl,FI.out.2⟩
theorem Frame_no {fns:List Fn}(hP:ProgOk fns)(hU:UniqF fns){w:World}{ab:Nat}{c:AC}{a:PA}(h:AppAt w ab fns 0 c a)(hd:a.handled=true)(e1:reckP fns viewB.data.toList [a.model]=none)(hfa:a.faults≤900000000):
  Calls prog 16 #[.pointer (some ⟨ab,0,none⟩)] w fun e w'=>∃t y,e=.returned (.iface t y)∧Below ab w w'∧AppAt w' ab fns 0 c { a with handled:=false,faults:=a.faults+1 }:=by
 have h1:=h.lock 1
 have b1:Below ab w (w.setCell ⟨ab,0,none⟩ (.int .i32 1)):=(h.set 0 _).2.2
 have c0:w.cell? ⟨ab,0,none⟩=some (.int .i32 0):=h.cell 0
 have f0:=h.frozen 0
 obtain⟨W1,hW1⟩:∃W1,W1=w.setCell ⟨ab,0,none⟩ (.int .i32 1):=⟨_,rfl⟩
 rw[←hW1] at h1 b1
 have CLock:=(lock_free muLib ⟨ab,0,none⟩ _ c0 f0).mono (fun e w' (hp:_∧_)=>(⟨hp.1,hp.2.trans hW1.symm⟩:e=.returned (.tuple #[])∧w'=W1))
 have c6:W1.cell? ⟨ab,6,none⟩=some (valN a.shown):=h1.cell 6
 have c5:W1.cell? ⟨ab,5,none⟩=some (.bool a.handled):=h1.cell 5
 rw[hd] at c5
 have f5:=h1.frozen 5
 have h2:AppAt (W1.setCell ⟨ab,5,none⟩ (.bool false)) ab fns 1 c { a with handled:=false }:=h1.upd 5 _ rfl rfl rfl rfl rfl
 have b2:Below ab w (W1.setCell ⟨ab,5,none⟩ (.bool false)):=b1.trans (h1.set 5 _).2.2
 have CS:Calls prog 34 #[.pointer (some ⟨ab,0,none⟩)] (W1.setCell ⟨ab,5,none⟩ (.bool false)) fun e w'=>∃t y,e=.returned (.iface t y)∧Calls prog 35 #[.pointer (some ⟨ab,0,none⟩),.iface t y] w' fun e w'=>e=.returned (.tuple #[])∧Below ab w w'∧AppAt w' ab fns 1 c { a with handled:=false,faults:=a.faults+1 }:=by
  refine (show_no hP hU h2 e1).mono fun e w' ⟨f,hf,he,hb⟩=>?_
  obtain⟨t,y,rfl⟩:=FltW.iface (Or.inl hf)
  refine⟨t,y,he,(cntF_ok (h2.below hb) (Or.inl hf) hfa).mono fun e w2 ⟨he2,hb2,hA2⟩=>⟨he2,?_,hA2⟩⟩
  have:=h2.lt
  exact (b2.trans (hb.mono (by omega))).trans hb2
 have FIN:Hid (∀Y t y,Below ab w Y→AppAt Y ab fns 1 c { a with handled:=false,faults:=a.faults+1 }→Y.cell? ⟨ab,0,none⟩=some (.int .i32 1)∧Y.frozen? ⟨ab,0,none⟩=false∧∃t' y',Ending.returned (.iface t y)=.returned (.iface t' y')∧Below ab w (Y.setCell ⟨ab,0,none⟩ (.int .i32 0))∧AppAt (Y.setCell ⟨ab,0,none⟩ (.int .i32 0)) ab fns 0 c { a with handled:=false,faults:=a.faults+1 }):=fun Y t y hY hA=>⟨hA.cell 0,hA.frozen 0,t,y,rfl,hY.trans (hA.set 0 _).2.2,hA.lock 0⟩
 obtain⟨sv,hsv⟩:∃sv,sv=valN a.shown:=⟨_,rfl⟩
 have hsn:sv=.nilIface∨∃tn bn,sv=.iface tn (.pointer (some ⟨bn,0,none⟩)):=by
  cases hs:a.shown with
  | none=>rw[hs] at hsv;exact Or.inl hsv
  | some n =>
   rw[hs] at hsv
   obtain⟨tn,bn,hv⟩:=n.val_iface
   exact Or.inr ⟨tn,bn,hsv.trans hv⟩
 rw[←hsv] at c6
 clear h h1 h2 b1 b2 e1 hd hsv hW1 c0 f0
 rcases hsn with rfl | ⟨tn,bn,rfl⟩
 all_goals
  go_enter_defers func16,ntmps16
  go_wp2_with (first
   |(go_at_call 32;refine CLock.mono ?_;clear CLock;rintro e w1 ⟨rfl,rfl⟩)
   |(go_at_call 34;refine CS.mono ?_;clear CS;rintro e w2 ⟨t,y,rfl,CC⟩)
   |(go_at_call 35;refine CC.mono ?_;clear CC;rintro e w3 ⟨rfl,hY,hA⟩;obtain⟨d0,g0,hfin⟩:=FIN.out _ t y hY hA;have FI:Hid _:=hfin;clear hfin hY hA FIN))
  refine leaves_cons (f:=33) (args:=#[.pointer (some ⟨ab,0,none⟩)]) (by simp) (by simp[go_sem]) ?_
  refine (unlock_deferred muLib ⟨ab,0,none⟩ .returning _ d0 g0).mono ?_
  rintro e u' w3 ⟨rfl,rfl,rfl⟩
  obtain⟨t1,y1,_,m2,m3⟩:=FI.out
  exact⟨_,results_tmp rfl _ _ _,t,y,rfl,m2,m3⟩
def enP (w:World)(ab:Nat)(fns:List Fn)(c:AC)(a:PA)(e:Ending)(w':World):Prop :=
 ∃j:Nat,e=.returned (.tuple #[.int .i64 0,.iface 153 (.agg #[.int .i64 ((j:Nat):Int)])])∧Below ab w w'∧AppAt w' ab fns 0 c a
theorem Event_no {fns:List Fn}{w:World}{ab:Nat}{c:AC}{a:PA}(h:AppAt w ab fns 0 c a){n:An}(hn:a.shown=some n)(path:List Nat)(pv:Value)(hp:SegAt w TT 3 1 pv path.length (pathV path))(hpl:path.length≤1000000)(hpi:∀i∈path,i≤1000000000)(evB:ByteArray)(hfs:wayA (topW n) path=none):
  Calls prog 23 #[.pointer (some ⟨ab,0,none⟩),pv,.string evB] w (enP w ab fns c a):=by
 have h1:=h.lock 1
 have b1:Below ab w (w.setCell ⟨ab,0,none⟩ (.int .i32 1)):=(h.set 0 _).2.2
 have hp1:SegAt (w.setCell ⟨ab,0,none⟩ (.int .i32 1)) TT 3 1 pv path.length (pathV path):=hp.tyKeep (TyKeep.setCell h.blk (by decide) _)
 have c0:w.cell? ⟨ab,0,none⟩=some (.int .i32 0):=h.cell 0
 have f0:=h.frozen 0
 obtain⟨W1,hW1⟩:∃W1,W1=w.setCell ⟨ab,0,none⟩ (.int .i32 1):=⟨_,rfl⟩
 rw[←hW1] at h1 b1 hp1
 have CLock:=(lock_free muLib ⟨ab,0,none⟩ _ c0 f0).mono (fun e w' (hp:_∧_)=>(⟨hp.1,hp.2.trans hW1.symm⟩:e=.returned (.tuple #[])∧w'=W1))
 have c6:W1.cell? ⟨ab,6,none⟩=some n.val:=by
  rw[h1.cell 6]
  show some (valN a.shown)=_
  rw[hn]
  rfl
 have hs:=h1.st.shown
 rw[hn] at hs
 replace hs:AnD W1 (NQ c.qv a.foe) n:=hs
 have hz:=(h.st.ok n hn).2
 have hlt:=h1.lt
 have CW:Calls prog 44 #[n.val,pv] W1 fun e w'=>∃j:Nat,e=.returned (.tuple #[.slice none 0 0,.iface 153 (.agg #[.int .i64 ((j:Nat):Int)])])∧Below W1.heap.size W1 w':=by
  refine (Way_any (NQ c.qv a.foe) n path pv W1 hs (by omega) hp1 hpl hpi).mono fun e w' hq=>?_
  obtain⟨hb,⟨fs',ad,cap,cs,g1,_⟩ | ⟨_,j,he⟩⟩:=hq
  ·rw[hfs] at g1
   cases g1
  ·exact⟨j,he,hb⟩
 have FIN:Hid (∀X (j:Nat),Below W1.heap.size W1 X→X.cell? ⟨ab,0,none⟩=some (.int .i32 1)∧X.frozen? ⟨ab,0,none⟩=false∧enP w ab fns c a (.returned (.tuple #[.int .i64 0,.iface 153 (.agg #[.int .i64 ((j:Nat):Int)])])) (X.setCell ⟨ab,0,none⟩ (.int .i32 0))):=fun X j hX=>by
  have hXa:=h1.below hX
  exact⟨hXa.cell 0,hXa.frozen 0,j,rfl,(b1.trans (hX.mono (by omega))).trans (hXa.set 0 _).2.2,hXa.lock 0⟩
 obtain⟨pad,pcap,rfl⟩:=hp.slice
 obtain⟨tn,bn,hv⟩:=n.val_iface
 rw[hv] at CW c6
 generalize enP w ab fns c a=POST at *
 clear h h1 hs hn hv hp hp1 hfs hW1 b1 hpi
 go_enter_defers func23,ntmps23
 go_wp2_with (go_at_call 32;refine CLock.mono ?_;clear CLock;rintro e w1 ⟨rfl,rfl⟩)
 refine CW.mono ?_
 rintro e w2 ⟨j,rfl,hb2⟩
 obtain⟨d0,g0,FI⟩:=FIN.out _ j hb2
 have FI2:Hid _:=FI
 clear FI CW FIN c6 hb2
 go_wp2_with fail
 refine leaves_cons (f:=33) (args:=#[.pointer (some ⟨ab,0,none⟩)]) (by simp) (by simp[go_sem]) ?_
 refine (unlock_deferred muLib ⟨ab,0,none⟩ .returning _ d0 g0).mono ?_
 rintro e u' w3 ⟨rfl,rfl,rfl⟩
 refine⟨_,results_tmp2 rfl _ _ _,?_⟩
 have hfin:=FI2.out
 simpa using hfin
end Go.Proofs.YtifhgjpglicjbaaGreatDoor
namespace Go.Proofs.YtifhgjpglicjbaaGreatDoor
open Go.Proofs.Tryz
open Go.RowKit Go.Lib
attribute [local go_sem ↓] Go.wp_at_zero Go.wp_at_succ
def newQ (w:World)(fns:List Fn)(m:PV)(e:Ending)(w':World):Prop :=
 ∃ab c,e=.returned (.tuple #[.pointer (some ⟨ab,0,none⟩),.nilIface])∧w.heap.size≤ab∧Below w.heap.size w w'∧AppAt w' ab fns 0 c (newA m w.heap.size)∧c.qv=.slice none 0 0
theorem newq_at {w X:World}{fns:List Fn}{m:PV}{x:Value}{pa:Option Addr}{pn pc:Nat}(hb:Below w.heap.size w X)(h15:15≤w.heap.size)(hp:ProgAt X (w.heap.size≤·) (.slice pa pn pc) fns)(hv:VL X TT m x)(hf:Fine m)(hG:FltG X)(hN:NumG X):
  newQ w fns m (.returned (.tuple #[.pointer (some ⟨X.heap.size,0,none⟩),.nilIface])) (X.alloc (.cells #[.int .i32 0,.int .u32 0,.slice pa pn pc,x,.slice none 0 0,.bool false,.nilIface,.int .i64 0,.int .i64 0,.int .i64 0,.int .i64 0,.int .i64 0,.int .i64 0] 92)):=by
 have hs:=hb.size
 have ha:Below X.heap.size X (X.alloc (.cells #[.int .i32 0,.int .u32 0,.slice pa pn pc,x,.slice none 0 0,.bool false,.nilIface,.int .i64 0,.int .i64 0,.int .i64 0,.int .i64 0,.int .i64 0,.int .i64 0] 92)):=(Below.refl _ _).alloc (Nat.le_refl _) _
 refine⟨X.heap.size,⟨0,pa,pn,pc,x,.slice none 0 0,0⟩,rfl,hs,hb.trans (ha.mono hs),⟨heap_alloc_new _ _,?_⟩,rfl⟩
 refine⟨?_,(hv.below ha).weaken fun q _=>⟨(fun e=>nomatch e),id⟩,⟨[],World.ownsRow_nil _ _ _ _,by show VLs _ _ [] [];rw[VLs]⟩,trivial,hG.below ha,hN.same fun q hq=>ha.block q (by omega),by show 15≤X.heap.size;omega,hf,(fun v hv=>by simp[newA] at hv),(fun n hn=>nomatch hn),(fun n hn=>nomatch hn),by show 0≤12;omega,⟨(fun q hq=>hq.elim),id,(fun n hn=>nomatch hn),(fun q hq=>nomatch hq),fun q hq=>hq.elim⟩⟩
 exact (hp.keep (w':=X.alloc _) fun q _ hq=>ha.block q hq).weaken fun q hq=>⟨hq.2,hq.1⟩
theorem Newq_ok {fns:List Fn}(hP:ProgOk fns)(hU:UniqF fns)(s:ByteArray)(w:World)(E:Nat→Addr)(hE:Errs w E)(hG:FltG w)(hN:NumG w)(h15:15≤w.heap.size)(hs:s.size≤2000){ts:List Tok}(hts:IsToks s.data.toList 0 ts)(hans:answer s.size ts=none){rest:List Tok}(hp:pProg (ts.length+1) ts=.ok fns rest)(m:PV)(hm:reckP fns initB.data.toList []=some m):
  Calls prog 14 #[.string s] w (newQ w fns m):=by
 have CR:Calls prog 25 #[.string s] w fun e w'=>(∃ad n cap,e=.returned (.tuple #[.agg #[.slice ad n cap],.nilIface])∧ProgAt w' (w.heap.size≤·) (.slice ad n cap) fns)∧Below w.heap.size w w':=by
  refine (read_any s w E hE h15 (by unfold maxLen;omega) (fun _=>hts)).mono fun e w' h=>?_
  obtain⟨⟨ad,n,cap,h1,h2⟩,hb⟩:=h
  rw[hans] at h1
  exact⟨⟨ad,n,cap,h1,h2 fns rest hp hans⟩,hb⟩
 have hfm:=reckP_fine hP (fun v hv=>by simp at hv) hm
 have CN:Hid (∀X pa pn pc,Below w.heap.size w X→ProgAt X (w.heap.size≤·) (.slice pa pn pc) fns→Calls prog 28 #[.agg #[.slice pa pn pc],.string initB,.slice none 0 0] X fun e w'=>∃tx xx,e=.returned (.tuple #[.iface tx xx,.nilIface])∧VL w' TT m (.iface tx xx)∧Below X.heap.size X w'):=fun X pa pn pc hX hpX=>by
  have hXs:=hX.size
  refine (named_any hP hU X TT TT initB [] [] (.slice none 0 0) pa pn pc (hpX.weaken fun _ _=>trivial) (hG.below hX) (by omega) (seg0 X TT _) (by rw[VLs]) (fun v hv=>by simp at hv) (by simp)).mono fun e w' hq=>?_
  rw[hm] at hq
  obtain⟨hb,⟨v',x,ho,he,hv⟩ | ⟨ho,_⟩⟩:=hq
  ·cases ho
   obtain⟨tx,xx,rfl⟩:=hv.iface
   exact⟨tx,xx,he,hv,hb⟩
  ·cases ho
 have FIN:Hid (∀X x pa pn pc,Below w.heap.size w X→ProgAt X (w.heap.size≤·) (.slice pa pn pc) fns→VL X TT m x→newQ w fns m (.returned (.tuple #[.pointer (some ⟨X.heap.size,0,none⟩),.nilIface])) (X.alloc (.cells #[.int .i32 0,.int .u32 0,.slice pa pn pc,x,.slice none 0 0,.bool false,.nilIface,.int .i64 0,.int .i64 0,.int .i64 0,.int .i64 0,.int .i64 0,.int .i64 0] 92))):=fun X x pa pn pc hX hpX hv=>newq_at hX h15 hpX hv hfm (hG.below hX) (hN.same fun q hq=>hX.block q (by omega))
 have vv:initB=⟨#[105,110,105,116]⟩:=rfl
 rw[vv] at CN
 clear hE hG hN hts hans hp hm hP hU hfm vv
 go_enter func14,ntmps14
 go_wp2_with (go_at_call 25;refine CR.mono ?_;rintro e w1 ⟨⟨ad,n,cap,rfl,hpa⟩,hb1⟩)
 have bA:Below w1.heap.size w1 (w1.alloc (.cells #[.slice ad n cap] 57)):=(Below.refl _ _).alloc (Nat.le_refl _) _
 have q0:(w1.alloc (.cells #[.slice ad n cap] 57)).heap[w1.heap.size]?=some (.cells #[.slice ad n cap] 57):=heap_alloc_new _ _
 have bX:=hb1.trans (bA.mono hb1.size)
 have pX:=hpa.below bA
 generalize w1.alloc (.cells #[.slice ad n cap] 57)=X0 at *
 have CNx:=CN.out X0 ad n cap bX pX
 have FI0:Hid (∀Y tx xx,Below X0.heap.size X0 Y→VL Y TT m (.iface tx xx)→Y.cell? ⟨w1.heap.size,0,none⟩=some (.slice ad n cap)∧newQ w fns m (.returned (.tuple #[.pointer (some ⟨Y.heap.size,0,none⟩),.nilIface])) (Y.alloc (.cells #[.int .i32 0,.int .u32 0,.slice ad n cap,.iface tx xx,.slice none 0 0,.bool false,.nilIface,.int .i64 0,.int .i64 0,.int .i64 0,.int .i64 0,.int .i64 0,.int .i64 0] 92))):=fun Y tx xx hY hv=>by
  refine⟨?_,FIN.out Y _ ad n cap (bX.trans (hY.mono bX.size)) (pX.below hY) hv⟩
  unfold World.cell?
  rw[hY.block _ (block_lt q0),q0]
  rfl
 clear CN FIN CR hpa q0 bA bX pX
 refine CNx.mono ?_
 rintro e w2 ⟨tx,xx,rfl,hv,hb2⟩
 obtain⟨d0,hfin⟩:=FI0.out w2 tx xx hb2 hv
 have FI:Hid _:=hfin
 clear hfin hv CNx FI0
 go_wp2_with fail
 go_ret2
 first
  | exact FI.out
  |(obtain⟨ab,c,he,m1,m2,m3⟩:=FI.out;exact⟨ab,c,by simpa using he,m1,m2,m3⟩)
end Go.Proofs.YtifhgjpglicjbaaGreatDoor
namespace Go.Proofs.YtifhgjpglicjbaaGreatDoor
open Go.Proofs.Tryz
open Go.RowKit Go.Lib Go.MuLone
attribute [local go_sem ↓] Go.wp_at_zero Go.wp_at_succ
def cntV (a:PA):Value:=.agg #[.int .i64 ((a.queue.length:Nat):Int),.int .i64 ((a.faults:Nat):Int),.int .i64 ((a.dropped:Nat):Int),.int .i64 ((a.frames:Nat):Int),.int .i64 ((a.lazies:Nat):Int)]
theorem Counts_ok {fns:List Fn}{w:World}{ab:Nat}{c:AC}{a:PA}(h0:AppAt w ab fns 0 c a):
  Calls prog 24 #[.pointer (some ⟨ab,0,none⟩)] w fun e w'=>e=.returned (cntV a)∧Below ab w w'∧AppAt w' ab fns 0 c a:=by
 have hlt0:=h0.lt
 have bA:=below1 w (.cells #[.int .i64 0,.int .i64 0,.int .i64 0,.int .i64 0,.int .i64 0] 51)
 have q0:(w.alloc (.cells #[.int .i64 0,.int .i64 0,.int .i64 0,.int .i64 0,.int .i64 0] 51)).heap[w.heap.size]?=some (.cells #[.int .i64 0,.int .i64 0,.int .i64 0,.int .i64 0,.int .i64 0] 51):=heap_alloc_new _ _
 obtain⟨W0,hW0⟩:∃W0,W0=w.alloc (.cells #[.int .i64 0,.int .i64 0,.int .i64 0,.int .i64 0,.int .i64 0] 51):=⟨_,rfl⟩
 rw[←hW0] at bA q0
 have h:=h0.below bA
 have h1:=h.lock 1
 have b1:Below ab W0 (W0.setCell ⟨ab,0,none⟩ (.int .i32 1)):=(h.set 0 _).2.2
 have q1:(W0.setCell ⟨ab,0,none⟩ (.int .i32 1)).heap[w.heap.size]?=_:=(Below.heap_setCell W0 ⟨ab,0,none⟩ (.int .i32 1) w.heap.size (by show w.heap.size≠ab;omega)).trans q0
 have c0:W0.cell? ⟨ab,0,none⟩=some (.int .i32 0):=h.cell 0
 have f0:=h.frozen 0
 obtain⟨W1,hW1⟩:∃W1,W1=W0.setCell ⟨ab,0,none⟩ (.int .i32 1):=⟨_,rfl⟩
 rw[←hW1] at h1 b1 q1
 have CLock:=(lock_free muLib ⟨ab,0,none⟩ _ c0 f0).mono (fun e w' (hp:_∧_)=>(⟨hp.1,hp.2.trans hW1.symm⟩:e=.returned (.tuple #[])∧w'=W1))
 have c4:W1.cell? ⟨ab,4,none⟩=some c.qv:=h1.cell 4
 have c8:W1.cell? ⟨ab,8,none⟩=some (.int .i64 c.wt):=h1.cell 8
 have c9:W1.cell? ⟨ab,9,none⟩=some (.int .i64 ((a.faults:Nat):Int)):=h1.cell 9
 have c10:W1.cell? ⟨ab,10,none⟩=some (.int .i64 ((a.dropped:Nat):Int)):=h1.cell 10
 have c11:W1.cell? ⟨ab,11,none⟩=some (.int .i64 ((a.frames:Nat):Int)):=h1.cell 11
 have c12:W1.cell? ⟨ab,12,none⟩=some (.int .i64 ((a.lazies:Nat):Int)):=h1.cell 12
 obtain⟨qa,qc,hqv⟩:∃qa qc,c.qv=.slice qa a.queue.length qc:=by
  obtain⟨cs,h2,_⟩:=h0.st.queue
  exact owns_slice h2
 rw[hqv] at c4
 have hql:=h0.st.hq
 have hqi:((a.queue.length:Nat):Int)≤12:=by omega
 obtain⟨X,hX⟩:∃X,X=W1.alloc (.cells #[.int .i64 c.wt,.int .i64 ((a.faults:Nat):Int),.int .i64 ((a.dropped:Nat):Int),.int .i64 ((a.frames:Nat):Int),.int .i64 ((a.lazies:Nat):Int)] 51):=⟨_,rfl⟩
 have bX:Below W1.heap.size W1 X:=by rw[hX];exact below1 _ _
 have hWs:w.heap.size<W1.heap.size:=block_lt q1
 have x4:X.cell? ⟨ab,4,none⟩=some (.slice qa a.queue.length qc):=Below.cellv bX c4
 have qX:X.heap[W1.heap.size]?=some (.cells #[.int .i64 c.wt,.int .i64 ((a.faults:Nat):Int),.int .i64 ((a.dropped:Nat):Int),.int .i64 ((a.frames:Nat):Int),.int .i64 ((a.lazies:Nat):Int)] 51):=by rw[hX];exact heap_alloc_new _ _
 have x0:X.cell? ⟨W1.heap.size,0,none⟩=some (.int .i64 c.wt):=by unfold World.cell?;rw[qX];rfl
 have xf:X.frozen? ⟨W1.heap.size,0,none⟩=false:=by unfold World.frozen?;rw[qX];rfl
 obtain⟨Y,hY⟩:∃Y,Y=X.setCell ⟨W1.heap.size,0,none⟩ (.int .i64 ((a.queue.length:Nat):Int)):=⟨_,rfl⟩
 have bY:Below W1.heap.size W1 Y:=by rw[hY];exact bX.setCell (p:=⟨W1.heap.size,0,none⟩) (Nat.le_refl _) _
 have qY:Y.heap[W1.heap.size]?=some (.cells #[.int .i64 ((a.queue.length:Nat):Int),.int .i64 ((a.faults:Nat):Int),.int .i64 ((a.dropped:Nat):Int),.int .i64 ((a.frames:Nat):Int),.int .i64 ((a.lazies:Nat):Int)] 51):=by rw[hY];exact set_block qX _
 have y0:Y.cell? ⟨W1.heap.size,0,none⟩=some (.int .i64 ((a.queue.length:Nat):Int)):=by unfold World.cell?;rw[qY];rfl
 have y1:Y.cell? ⟨W1.heap.size,1,none⟩=some (.int .i64 ((a.faults:Nat):Int)):=by unfold World.cell?;rw[qY];rfl
 have y2:Y.cell? ⟨W1.heap.size,2,none⟩=some (.int .i64 ((a.dropped:Nat):Int)):=by unfold World.cell?;rw[qY];rfl
 have y3:Y.cell? ⟨W1.heap.size,3,none⟩=some (.int .i64 ((a.frames:Nat):Int)):=by unfold World.cell?;rw[qY];rfl
 have y4:Y.cell? ⟨W1.heap.size,4,none⟩=some (.int .i64 ((a.lazies:Nat):Int)):=by unfold World.cell?;rw[qY];rfl
 have qZ:Y.heap[w.heap.size]?=_:=(bY.block w.heap.size hWs).trans q1
 have r0:Y.cell? ⟨w.heap.size,0,none⟩=some (.int .i64 0):=by unfold World.cell?;rw[qZ];rfl
 have r1:Y.cell? ⟨w.heap.size,1,none⟩=some (.int .i64 0):=by unfold World.cell?;rw[qZ];rfl
 have r2:Y.cell? ⟨w.heap.size,2,none⟩=some (.int .i64 0):=by unfold World.cell?;rw[qZ];rfl
 have r3:Y.cell? ⟨w.heap.size,3,none⟩=some (.int .i64 0):=by unfold World.cell?;rw[qZ];rfl
 have r4:Y.cell? ⟨w.heap.size,4,none⟩=some (.int .i64 0):=by unfold World.cell?;rw[qZ];rfl
 have rf:=fun j=>(show Y.frozen? ⟨w.heap.size,j,none⟩=false by unfold World.frozen?;rw[qZ];rfl)
 obtain⟨Z,hZ⟩:∃Z,Z=((((Y.setCell ⟨w.heap.size,0,none⟩ (.int .i64 ((a.queue.length:Nat):Int))).setCell ⟨w.heap.size,1,none⟩ (.int .i64 ((a.faults:Nat):Int))).setCell ⟨w.heap.size,2,none⟩ (.int .i64 ((a.dropped:Nat):Int))).setCell ⟨w.heap.size,3,none⟩ (.int .i64 ((a.frames:Nat):Int))).setCell ⟨w.heap.size,4,none⟩ (.int .i64 ((a.lazies:Nat):Int)):=⟨_,rfl⟩
 have bZ:Below w.heap.size Y Z:=by
  rw[hZ]
  exact (((((Below.refl _ _).setCell (p:=⟨w.heap.size,0,none⟩) (Nat.le_refl _) _).setCell (p:=⟨w.heap.size,1,none⟩) (Nat.le_refl _) _).setCell (p:=⟨w.heap.size,2,none⟩) (Nat.le_refl _) _).setCell (p:=⟨w.heap.size,3,none⟩) (Nat.le_refl _) _).setCell (p:=⟨w.heap.size,4,none⟩) (Nat.le_refl _) _
 have kZ:Z.heap[w.heap.size]?=some (.cells #[.int .i64 ((a.queue.length:Nat):Int),.int .i64 ((a.faults:Nat):Int),.int .i64 ((a.dropped:Nat):Int),.int .i64 ((a.frames:Nat):Int),.int .i64 ((a.lazies:Nat):Int)] 51):=by
  rw[hZ]
  exact set_block (set_block (set_block (set_block (set_block qZ _) _) _) _) _
 have hV:=h0.lock 1
 have bV:=(h0.set 0 (.int .i32 1)).2.2
 have hzV:(w.setCell ⟨ab,0,none⟩ (.int .i32 1)).heap.size=w.heap.size:=by simp[World.setCell]
 have bwZ:Below ab w Z:=((bA.mono (by omega)).trans b1).trans ((bY.mono (by omega)).trans (bZ.mono (by omega)))
 have bVZ:Below (w.setCell ⟨ab,0,none⟩ (.int .i32 1)).heap.size (w.setCell ⟨ab,0,none⟩ (.int .i32 1)) Z:=by
  refine⟨bwZ.os.trans bV.os.symm,bwZ.tape.trans bV.tape.symm,bwZ.output.trans bV.output.symm,by rw[hzV];exact bwZ.size,fun q hq=>?_⟩
  rw[hzV] at hq
  rw[bZ.block q hq,bY.block q (by omega)]
  by_cases hqa:q=ab
  ·subst hqa
   exact h1.blk.trans hV.blk.symm
  ·rw[hW1,Below.heap_setCell W0 ⟨ab,0,none⟩ _ q hqa,Below.heap_setCell w ⟨ab,0,none⟩ _ q hqa]
   exact bA.block q hq
 have hAZ:=hV.below bVZ
 have z0:Z.cell? ⟨ab,0,none⟩=some (.int .i32 1):=hAZ.cell 0
 have zf:=hAZ.frozen 0
 have kU:(Z.setCell ⟨ab,0,none⟩ (.int .i32 0)).heap[w.heap.size]?=_:=(Below.heap_setCell Z ⟨ab,0,none⟩ (.int .i32 0) w.heap.size (by show w.heap.size≠ab;omega)).trans kZ
 have u0:(Z.setCell ⟨ab,0,none⟩ (.int .i32 0)).cell? ⟨w.heap.size,0,none⟩=some (.int .i64 ((a.queue.length:Nat):Int)):=by unfold World.cell?;rw[kU];rfl
 have u1:(Z.setCell ⟨ab,0,none⟩ (.int .i32 0)).cell? ⟨w.heap.size,1,none⟩=some (.int .i64 ((a.faults:Nat):Int)):=by unfold World.cell?;rw[kU];rfl
 have u2:(Z.setCell ⟨ab,0,none⟩ (.int .i32 0)).cell? ⟨w.heap.size,2,none⟩=some (.int .i64 ((a.dropped:Nat):Int)):=by unfold World.cell?;rw[kU];rfl
 have u3:(Z.setCell ⟨ab,0,none⟩ (.int .i32 0)).cell? ⟨w.heap.size,3,none⟩=some (.int .i64 ((a.frames:Nat):Int)):=by unfold World.cell?;rw[kU];rfl
 have u4:(Z.setCell ⟨ab,0,none⟩ (.int .i32 0)).cell? ⟨w.heap.size,4,none⟩=some (.int .i64 ((a.lazies:Nat):Int)):=by unfold World.cell?;rw[kU];rfl
 have FIN:Hid (Below ab w (Z.setCell ⟨ab,0,none⟩ (.int .i32 0))∧AppAt (Z.setCell ⟨ab,0,none⟩ (.int .i32 0)) ab fns 0 c a):=⟨bwZ.trans (hAZ.set 0 _).2.2,hAZ.lock 0⟩
 have HZ:Hid (Z=((((Y.setCell _ _).setCell _ _).setCell _ _).setCell _ _).setCell _ _):=hZ
 have HX:Hid (X=W1.alloc _):=hX
 have HY:Hid (Y=X.setCell _ _):=hY
 go_enter_defers func24,ntmps24
 go_upto_region 1 with fail
 rw[←hW0]
 clear h0 h h1 hqv hql b1 bA q0 q1 hW0 hW1 c0 f0 hX hY bX bY qX qY qZ hZ bZ kZ hV bV hzV bwZ bVZ hAZ kU
 go_upto_region 4 with (first
  |(go_at_call 32;refine CLock.mono ?_;clear CLock;rintro e w1 ⟨rfl,rfl⟩))
 rw[←HX.out]
 clear HX c8 c9 c10 c11 c12 c4
 go_upto_region 5 with fail
 rw[←HY.out]
 clear HY x4 x0 xf
 go_wp2_with fail
 rw[←HZ.out]
 refine leaves_cons (f:=33) (args:=#[.pointer (some ⟨ab,0,none⟩)]) (by simp) (by simp[go_sem]) ?_
 refine (unlock_deferred muLib ⟨ab,0,none⟩ .returning _ z0 zf).mono ?_
 rintro e u' w5 ⟨rfl,rfl,rfl⟩
 exact⟨cntV a,by simp[results,results24,go_sem,u0,u1,u2,u3,u4,cntV],rfl,FIN.out⟩
end Go.Proofs.YtifhgjpglicjbaaGreatDoor
namespace Go.Proofs.YtifhgjpglicjbaaGreatDoor
open Go.Proofs.Tryz
open Go.RowKit Go.Lib
def Mine (ab:Nat)(c:AC)(a:PA)(q:Nat):Prop:=q=ab∨(∃n,a.shown=some n∧q∈blocksA n)∨c.qv.ownBlock=some q
def PA.fc (a:PA)(w:World)(ab:Nat)(c:AC):PA:={ a with S:=fun q=>q<w.heap.size∧¬ Mine ab c a q,was:=fun q=>w.heap[q]? }
theorem AppAt.frameC {w:World}{ab:Nat}{fns:List Fn}{lk:Int}{c:AC}{a:PA}(h:AppAt w ab fns lk c a):AppAt w ab fns lk c (a.fc w ab c):=by
 have hs:=h.st
 exact⟨h.blk,⟨hs.prog,hs.model,hs.queue,hs.shown,hs.flt,hs.num,hs.hm,hs.fm,hs.fq,hs.ok,hs.nm,hs.hq,⟨fun q hq=>⟨hq.1,rfl⟩,fun hq=>hq.2 (Or.inl rfl),fun n hn b hb hq=>hq.2 (Or.inr (Or.inl ⟨n,hn,hb⟩)),fun q hq hS=>hS.2 (Or.inr (Or.inr hq)),hs.out.fo⟩⟩⟩
structure Duo (w:World)(M:Nat)(fA fB:List Fn)(pA:Nat)(cA:AC)(aA:PA)(pB:Nat)(cB:AC)(aB:PA):Prop where
 A:AppAt w pA fA 0 cA aA
 B:AppAt w pB fB 0 cB aB
 ne:pA≠pB
 mA:pA≤M
 mB:pB≤M
 mw:M<w.heap.size
 dn:∀n m,aA.shown=some n→aB.shown=some m→∀q∈blocksA n,q ∉ blocksA m
 dq:∀q,cA.qv.ownBlock=some q→cB.qv.ownBlock≠some q
 eA:∀q,cB.qv.ownBlock=some q→aA.foe q
 eB:∀q,cA.qv.ownBlock=some q→aB.foe q
 lA:∀n,aA.shown=some n→∀q∈blocksA n,M<q
 lB:∀n,aB.shown=some n→∀q∈blocksA n,M<q
 kA:∀q,cA.qv.ownBlock=some q→M<q
 kB:∀q,cB.qv.ownBlock=some q→M<q
 gA:∀q,PD pA aA q→q≠pB
 gB:∀q,PD pB aB q→q≠pA
theorem Duo.symm {w:World}{M:Nat}{fA fB:List Fn}{pA:Nat}{cA:AC}{aA:PA}{pB:Nat}{cB:AC}{aB:PA}(h:Duo w M fA fB pA cA aA pB cB aB):Duo w M fB fA pB cB aB pA cA aA :=
 ⟨h.B,h.A,h.ne.symm,h.mB,h.mA,h.mw,fun n m hn hm q hq hq'=>h.dn m n hm hn q hq' hq,fun q hq hq'=>h.dq q hq' hq,h.eB,h.eA,h.lB,h.lA,h.kB,h.kA,h.gB,h.gA⟩
theorem Duo.below {w w':World}{M:Nat}{fA fB:List Fn}{pA:Nat}{cA:AC}{aA:PA}{pB:Nat}{cB:AC}{aB:PA}(h:Duo w M fA fB pA cA aA pB cB aB)(hb:Below w.heap.size w w'):Duo w' M fA fB pA cA aA pB cB aB :=
 ⟨h.A.below hb,h.B.below hb,h.ne,h.mA,h.mB,by have:=h.mw;have:=hb.size;omega,h.dn,h.dq,h.eA,h.eB,h.lA,h.lB,h.kA,h.kB,h.gA,h.gB⟩
def PA.fo (a:PA)(c:AC):PA:={ a with foe:=fun q=>c.qv.ownBlock=some q,S:=fun _=>False,was:=fun _=>none }
theorem Duo.step {w w':World}{M:Nat}{fA fB:List Fn}{pA:Nat}{cA cA':AC}{aA aA':PA}{pB:Nat}{cB:AC}{aB:PA}(h:Duo w M fA fB pA cA aA pB cB aB)(hA:AppAt w' pA fA 0 cA' aA')(e1:aA'.S=(aA.fc w pA cA).S)(e2:aA'.was=(aA.fc w pA cA).was)(e3:aA'.foe=aA.foe)(e4:aA'.pd=aA.pd)(hz:w.heap.size≤w'.heap.size):
  Duo w' M fA fB pA cA' aA' pB cB (aB.fo cA')∧RowsKeep w w'∧TyKeep 51 w w':=by
 have hmw:=h.mw
 have hmA:=h.mA
 have hmB:=h.mB
 have tA:=h.A.blk
 have tB:=h.B.blk
 have nA:∀n,aA.shown=some n→∀q∈blocksA n,∃c t,w.heap[q]?=some (.cells c t)∧(t=216∨t=223∨t=225∨t=228∨t=231):=fun n hn q hq=>by
  have hs:=h.A.st.shown
  rw[hn] at hs
  exact AnD.ty (n:=n) hs q hq
 have qA:∀q,cA.qv.ownBlock=some q→∃c,w.heap[q]?=some (.cells c 74):=fun q hq=>by
  obtain⟨cs,h1,_⟩:=h.A.st.queue
  exact owns_block h1 hq
 have K:∀q,q<w.heap.size→¬ Mine pA cA aA q→w'.heap[q]?=w.heap[q]?:=fun q hq hm=>by
  have:=(hA.st.out.keep q (by rw[e1];exact⟨hq,hm⟩)).2
  rw[this,e2]
  rfl
 have N:∀n,aA'.shown=some n→∀q∈blocksA n,q<w.heap.size→Mine pA cA aA q:=fun n hn q hq hl=>Classical.byContradiction fun hm=>hA.st.out.sN n hn q hq (by rw[e1];exact⟨hl,hm⟩)
 have Q:∀q,cA'.qv.ownBlock=some q→q<w.heap.size→Mine pA cA aA q:=fun q hq hl=>Classical.byContradiction fun hm=>hA.st.out.sQ q hq (by rw[e1];exact⟨hl,hm⟩)
 -- blocks of other types are none of the first one's
 have T:∀q c t,w.heap[q]?=some (.cells c t)→t≠92→t≠74→¬ (t=216∨t=223∨t=225∨t=228∨t=231)→¬ Mine pA cA aA q:=fun q c t hq h1 h2 h3 hm=>by
  rcases hm with rfl | ⟨n,hn,hb⟩ | hb
  ·exact h1 (ty_eq hq tA)
  ·obtain⟨c',t',g1,g2⟩:=nA n hn q hb
   rw[ty_eq g1 hq] at g2
   exact h3 g2
  ·obtain⟨c',g1⟩:=qA q hb
   exact h2 (ty_eq hq g1)
 have V:∀q c,w.heap[q]?=some (.cells c 74)→¬ cA.qv.ownBlock=some q→¬ Mine pA cA aA q:=fun q c hq h2 hm=>by
  rcases hm with rfl | ⟨n,hn,hb⟩ | hb
  ·exact absurd (ty_eq hq tA) (by decide)
  ·obtain⟨c',t',g1,g2⟩:=nA n hn q hb
   rw[ty_eq g1 hq] at g2
   revert g2
   decide
  ·exact h2 hb
 have Lw:∀q,q≤M→q≠pA→¬ Mine pA cA aA q:=fun q hq hn hm=>by
  rcases hm with hm | ⟨n,hn,hb⟩ | hb
  ·exact hn hm
  ·have:=h.lA n hn q hb;omega
  ·have:=h.kA q hb;omega
 have hnB:∀m,aB.shown=some m→∀q∈blocksA m,¬ Mine pA cA aA q∧q<w.heap.size:=fun m hm q hq=>by
  have hs:=h.B.st.shown
  rw[hm] at hs
  obtain⟨c,t,g1,g2⟩:=AnD.ty (n:=m) hs q hq
  refine⟨fun hmi=>?_,block_lt g1⟩
  rcases hmi with rfl | ⟨n,hn,hb⟩ | hb
  ·have:=h.lB m hm q hq;omega
  ·exact h.dn n m hn hm q hb hq
  ·obtain⟨c',g3⟩:=qA q hb
   rw[ty_eq g1 g3] at g2
   revert g2
   decide
 have hqB:∀q,cB.qv.ownBlock=some q→¬ Mine pA cA aA q∧q<w.heap.size:=fun q hq=>by
  obtain⟨cs,h1,_⟩:=h.B.st.queue
  obtain⟨c,g1⟩:=owns_block h1 hq
  exact⟨V q c g1 fun e=>h.dq q e hq,block_lt g1⟩
 have ty:∀t,t≠92→t≠74→¬ (t=216∨t=223∨t=225∨t=228∨t=231)→TyKeep t w w':=fun t h1 h2 h3 q cur hq=>by
  rw[K q (block_lt hq) (T q cur t hq h1 h2 h3)]
  exact hq
 have sg:∀t,(t=74∨t=90)→∀v n ys,SegAt w (NQ cB.qv aB.foe) t 1 v n ys→SegAt w' (NQ cB.qv (aB.fo cA').foe) t 1 v n ys:=fun t ht v n ys hs=>by
  refine⟨hs.1,?_⟩
  rcases hs.2 with hn | ⟨g,o,cap,cur,hv,hd,hh,r⟩
  ·exact Or.inl hn
  ·have hnm:¬ Mine pA cA aA g:=by
    rcases ht with rfl | rfl
    ·exact V g cur hh fun e=>hd.2 (h.eB g e)
    ·exact T g cur _ hh (by decide) (by decide) (by decide)
   refine Or.inr ⟨g,o,cap,cur,hv,⟨hd.1,fun e=>hnm (Q g e (block_lt hh))⟩,?_,r⟩
   rw[K g (block_lt hh) hnm]
   exact hh
 have rkd:RKD w (NQ cB.qv aB.foe) w' (NQ cB.qv (aB.fo cA').foe):=⟨sg _ (Or.inl rfl),ty _ (by decide) (by decide) (by decide),ty _ (by decide) (by decide) (by decide),sg _ (Or.inr rfl),ty _ (by decide) (by decide) (by decide)⟩
 have hs:=h.B.st
 have hmB2:=hs.hm
 have hmA2:=h.A.st.hm
 have BB:AppAt w' pB fB 0 cB (aB.fo cA'):=by
  refine⟨(K pB (by omega) (Lw pB hmB h.ne.symm)).trans tB,⟨(hs.prog.keep fun q hq _=>K q (by have:=hq.1;omega) (Lw q (by have:=hq.1;omega) (h.gB q hq))).weaken fun q hq=>hq.1,hs.model.map (sg _ (Or.inl rfl)),?_,?_,hs.flt.same fun q hq=>K q (by omega) (Lw q (by omega) (by omega)),hs.num.same fun q hq=>K q (by omega) (Lw q (by omega) (by omega)),hmB2,hs.fm,hs.fq,hs.ok,hs.nm,hs.hq,⟨fun q hq=>hq.elim,id,fun n hn b hb=>id,fun q hq=>id,fun q hq=>?_⟩⟩⟩
  ·obtain⟨cs,h1,h2⟩:=hs.queue
   exact⟨cs,owns_keep h1 fun q hq=>K q (hqB q hq).2 (hqB q hq).1,h2.map (sg _ (Or.inl rfl))⟩
  ·show OD w' _ aB.shown
   cases hn:aB.shown with
   | none=>trivial
   | some m =>
    have hsh:=hs.shown
    rw[hn] at hsh
    exact AnD.map rkd (fun b hb=>K b (hnB m hn b hb).2 (hnB m hn b hb).1) hsh
  ·obtain⟨cs,h1,_⟩:=hA.st.queue
   exact (h1.lt q hq).2
 have tA':=hA.blk
 have notP:∀n,aA'.shown=some n→∀q∈blocksA n,q≠pA:=fun n hn q hq e=>by
  have hs:=hA.st.shown
  rw[hn] at hs
  obtain⟨c,t,g1,g2⟩:=AnD.ty (n:=n) hs q hq
  rw[e] at g1
  rw[ty_eq g1 tA'] at g2
  revert g2
  decide
 have notQ:∀q,cA'.qv.ownBlock=some q→q≠pA:=fun q hq e=>by
  obtain⟨cs,h1,_⟩:=hA.st.queue
  have:=(h1.lt q hq).1
  omega
 refine⟨⟨hA,BB,h.ne,hmA,hmB,by omega,fun n m hn hm q hq hq'=>?_,fun q hq hq'=>?_,fun q hq=>by rw[e3];exact h.eA q hq,fun q hq=>hq,fun n hn q hq=>?_,h.lB,fun q hq=>?_,h.kB,fun q hq=>h.gA q ⟨hq.1,by rw[←e4];exact hq.2⟩,h.gB⟩,fun q hq=>?_,ty _ (by decide) (by decide) (by decide)⟩
 ·exact (hnB m hm q hq').1 (N n hn q hq (hnB m hm q hq').2)
 ·exact (hqB q hq').1 (Q q hq (hqB q hq').2)
 ·by_cases hl:q<w.heap.size
  ·rcases N n hn q hq hl with e | ⟨m,hm,hb⟩ | hb
   ·exact absurd e (notP n hn q hq)
   ·exact h.lA m hm q hb
   ·exact h.kA q hb
  ·omega
 ·by_cases hl:q<w.heap.size
  ·rcases Q q hq hl with e | ⟨m,hm,hb⟩ | hb
   ·exact absurd e (notQ q hq)
   ·exact h.lA m hm q hb
   ·exact h.kA q hb
  ·omega
 ·obtain⟨cur,hq⟩:=hq
  rcases hq with hq | hq
  ·exact K q (block_lt hq) (T q cur _ hq (by decide) (by decide) (by decide))
  ·exact K q (block_lt hq) (T q cur _ hq (by decide) (by decide) (by decide))
structure EgP where
 E:List Ent
 g:Nat
 lz:Nat
 fr:Nat
 fl:Nat
 m:PV
 q:List PV
 hd:Bool
 sn:Bool
structure EgA (way:Bool)(s:EgP)(a:PA):Prop where
 sh:if s.sn=true then ∃b ns,a.shown=some (ulA b s.E ns)∧KNs way s.E ns∧a.greatest=s.g else a.shown=none∧s.E=[]∧s.g=1∧a.greatest=0
 queue:a.queue=s.q
 drop:a.dropped=0
 lz:a.lazies=s.lz
 fr:a.frames=s.fr
 fl:a.faults=s.fl
 model:a.model=s.m
 hd:a.handled=s.hd
theorem EgA.fo {way:Bool}{s:EgP}{a:PA}(h:EgA way s a)(c:AC):EgA way s (a.fo c):=⟨h.sh,h.queue,h.drop,h.lz,h.fr,h.fl,h.model,h.hd⟩
theorem EgA.fc {way:Bool}{s:EgP}{a:PA}(h:EgA way s a)(w:World)(ab:Nat)(c:AC):EgA way s (a.fc w ab c):=⟨h.sh,h.queue,h.drop,h.lz,h.fr,h.fl,h.model,h.hd⟩
def FrEq (a a':PA):Prop:=a'.S=a.S∧a'.was=a.was∧a'.foe=a.foe∧a'.pd=a.pd
def St (w:World)(M:Nat)(x y:Bool)(pX pY:Nat)(sX sY:EgP):Prop:=∃cX aX cY aY,Duo w M (kyF x) (kyF y) pX cX aX pY cY aY∧EgA x sX aX∧EgA y sY aY
theorem St.symm {w:World}{M:Nat}{x y:Bool}{pX pY:Nat}{sX sY:EgP}(h:St w M x y pX pY sX sY):St w M y x pY pX sY sX:=by
 obtain⟨cX,aX,cY,aY,h1,h2,h3⟩:=h
 exact⟨cY,aY,cX,aX,h1.symm,h3,h2⟩
theorem St.below {w w':World}{M:Nat}{x y:Bool}{pX pY:Nat}{sX sY:EgP}(h:St w M x y pX pY sX sY)(hb:Below w.heap.size w w'):St w' M x y pX pY sX sY:=by
 obtain⟨cX,aX,cY,aY,h1,h2,h3⟩:=h
 exact⟨cX,aX,cY,aY,h1.below hb,h2,h3⟩
theorem St.call {w:World}{M:Nat}{x y:Bool}{pX pY:Nat}{sX sY:EgP}(h:St w M x y pX pY sX sY){f:FuncId}{args:Array Value}{P:Ending→Prop}{sX':EgP}
  (C:∀c a,AppAt w pX (kyF x) 0 c a→EgA x sX a→Calls prog f args w fun e w'=>P e∧∃c' a',AppAt w' pX (kyF x) 0 c' a'∧EgA x sX' a'∧FrEq a a'∧Below pX w w') :
  Calls prog f args w fun e w'=>P e∧Below pX w w'∧RowsKeep w w'∧St w' M x y pX pY sX' sY:=by
 obtain⟨cX,aX,cY,aY,h1,h2,h3⟩:=h
 refine (C cX (aX.fc w pX cX) h1.A.frameC (h2.fc w pX cX)).mono fun e w' ⟨hp,c',a',hA,hE,⟨f1,f2,f3,f4⟩,hb⟩=>?_
 obtain⟨d1,d2,_⟩:=h1.step hA f1 f2 f3 f4 hb.size
 exact⟨hp,hb,d2,c',a',cY,aY.fo c',d1,hE,h3.fo c'⟩
theorem st_send {w:World}{M:Nat}{x y:Bool}{pX pY:Nat}{sX sY:EgP}(h:St w M x y pX pY sX sY)(hq:sX.q=[]){l:List Nat}(hl:OrdOk l):
  Calls prog 19 #[.pointer (some ⟨pX,0,none⟩),.string ⟨(wrV (.lst (l.map keyV))).toArray⟩] w fun e w'=>e=.returned .nilIface∧Below pX w w'∧RowsKeep w w'∧St w' M x y pX pY { sX with q:=[ksV (l.map keyB)] } sY:=by
 refine h.call fun c a hA hE=>?_
 obtain⟨hrd,hfi⟩:=keys_read hl
 have hsl:(wrV (.lst (l.map keyV))).length≤60:=by
  have:=ordT_len hl.lt
  have:=hl.len
  simp[wrV]
  omega
 refine (Send_ok hA ⟨(wrV (.lst (l.map keyV))).toArray⟩ (ksV (l.map keyB)) (by show (wrV (.lst (l.map keyV))).toArray.size≤_;simp;omega) (by simpa using hrd) (by rw[hE.drop];omega)).mono fun e w1 ⟨c1,he,hb1,hA1⟩=>?_
 have hq0:a.queue=[]:=hE.queue.trans hq
 have el:layA a [ksV (l.map keyB)]={ a with queue:=[ksV (l.map keyB)] }:=by simp[layA,hq0]
 rw[el] at hA1
 exact⟨he,c1,_,hA1,⟨hE.sh,rfl,hE.drop,hE.lz,hE.fr,hE.fl,hE.model,hE.hd⟩,⟨rfl,rfl,rfl,rfl⟩,hb1⟩
theorem st_pump {w:World}{M:Nat}{x y:Bool}{pX pY:Nat}{sX sY:EgP}(h:St w M x y pX pY sX sY){v:PV}(hq:sX.q=[v])(k:Nat)(hk:k≤10):
  Calls prog 20 #[.pointer (some ⟨pX,0,none⟩),.int .i64 ((k+1:Nat):Int)] w fun e w'=>e=.returned (.int .i64 1)∧Below pX w w'∧RowsKeep w w'∧St w' M x y pX pY { sX with q:=[],m:=v,hd:=true } sY:=by
 refine h.call fun c a hA hE=>?_
 have L:=ky_loads x
 have hq0:a.queue=[v]:=hE.queue.trans hq
 refine (Pump_ok L.ok L.un hA (k+1) 1 (by omega) v [] (by rw[hq0];exact ky_pump x k _ _)).mono fun e w2 ⟨c2,he,hb2,hA2⟩=>?_
 exact⟨he,c2,_,hA2,⟨hE.sh,rfl,hE.drop,hE.lz,hE.fr,hE.fl,rfl,by simp⟩,⟨rfl,rfl,rfl,rfl⟩,hb2⟩
theorem frsh_le (E:List Ent)(l:List (List UInt8)):frsh E l≤l.length:=List.length_filter_le _ _
theorem st_frame {w:World}{M:Nat}{x y:Bool}{pX pY:Nat}{sX sY:EgP}(h:St w M x y pX pY sX sY){l:List Nat}(hl:OrdOk l)(hm:sX.m=ksV (l.map keyB))(hd:sX.hd=true)(hg:sX.g≤1000000)(hz:sX.lz≤1000000)(hf:sX.fr≤1000000):
  Calls prog 16 #[.pointer (some ⟨pX,0,none⟩)] w fun e w'=>e=.returned .nilIface∧Below pX w w'∧RowsKeep w w'∧St w' M x y pX pY { sX with E:=(nxt sX.E sX.g (l.map keyB)).1,g:=(nxt sX.E sX.g (l.map keyB)).2,lz:=sX.lz+(if x=true then frsh sX.E (l.map keyB) else 0),fr:=sX.fr+1,hd:=false,sn:=true } sY:=by
 refine h.call fun c a hA hE=>?_
 have L:=ky_loads x
 have hn12:(l.map keyB).length≤12:=by have:=hl.len;simp;omega
 have hv:=ky_view x _ hn12 (keys_x hl)
 rw[←hm,←hE.model] at hv
 have hlz:=hE.lz
 have hfr:=hE.fr
 have hsh:=hE.sh
 by_cases hs:sX.sn=true
 ·rw[if_pos hs] at hsh
  obtain⟨b,ns,s1,s2,s3⟩:=hsh
  obtain⟨K,c',z',e1,e2,e3⟩:=ky_frame (b0:=b) s2 (l.map keyB) (keys_nodup hl) hn12 (keys_x hl)
  refine (Frame_ok L.ok L.un hA (Or.inr (hE.hd.trans hd)) _ 10 K c' z' hv (by rw[s1];exact e1) (by omega) (by omega) (by omega)).mono fun e w3 ⟨n,F,he,hM,hb3,hA3⟩=>?_
  obtain⟨b',ns',f1,f2⟩:=e3 n F sX.g hM
  refine⟨he,c,_,hA3,⟨?_,hE.queue,hE.drop,?_,?_,hE.fl,hE.model,rfl⟩,⟨rfl,rfl,rfl,rfl⟩,hb3⟩
  ·rw[if_pos rfl]
   refine⟨b',ns',?_,f2,?_⟩
   ·show some (numA n (bareO a.shown) a.greatest).1=_
    rw[s1,s3,f1]
   ·show (numA n (bareO a.shown) a.greatest).2=_
    rw[s1,s3,f1]
  ·show a.lazies+z'=_
   rw[hlz,e2]
  ·show a.frames+1=_
   rw[hfr]
 ·rw[if_neg hs] at hsh
  obtain⟨s1,s2,s3,s4⟩:=hsh
  obtain⟨K,c',z',e1,e2,e3⟩:=ky_frameN x (l.map keyB) (keys_nodup hl) hn12 (keys_x hl)
  refine (Frame_ok L.ok L.un hA (Or.inl s1) _ 10 K c' z' hv (by rw[s1];exact e1) (by omega) (by omega) (by omega)).mono fun e w3 ⟨n,F,he,hM,hb3,hA3⟩=>?_
  obtain⟨b',ns',f1,f2⟩:=e3 n F hM
  refine⟨he,c,_,hA3,⟨?_,hE.queue,hE.drop,?_,?_,hE.fl,hE.model,rfl⟩,⟨rfl,rfl,rfl,rfl⟩,hb3⟩
  ·rw[if_pos rfl,s2,s3]
   refine⟨b',ns',?_,f2,?_⟩
   ·show some (numA n (bareO a.shown) a.greatest).1=_
    rw[s1,s4,f1]
   ·show (numA n (bareO a.shown) a.greatest).2=_
    rw[s1,s4,f1]
  ·show a.lazies+z'=_
   rw[hlz,e2,s2]
  ·show a.frames+1=_
   rw[hfr]
theorem st_frame_no {w:World}{M:Nat}{x y:Bool}{pX pY:Nat}{sX sY:EgP}(h:St w M x y pX pY sX sY){t:List UInt8}(hm:sX.m=.txt t)(hd:sX.hd=true)(hf:sX.fl≤1000000):
  Calls prog 16 #[.pointer (some ⟨pX,0,none⟩)] w fun e w'=>(∃t y,e=.returned (.iface t y))∧Below pX w w'∧RowsKeep w w'∧St w' M x y pX pY { sX with fl:=sX.fl+1,hd:=false } sY:=by
 refine h.call fun c a hA hE=>?_
 have L:=ky_loads x
 have hfl:=hE.fl
 refine (Frame_no L.ok L.un hA (hE.hd.trans hd) (by rw[hE.model,hm];exact ky_viewT x t) (by omega)).mono fun e w3 ⟨t',y',he,hb3,hA3⟩=>?_
 refine⟨⟨t',y',he⟩,c,_,hA3,⟨hE.sh,hE.queue,hE.drop,hE.lz,hE.fr,?_,hE.model,rfl⟩,⟨rfl,rfl,rfl,rfl⟩,hb3⟩
 show a.faults+1=_
 rw[hfl]
theorem st_tree {w:World}{M:Nat}{x y:Bool}{pX pY:Nat}{sX sY:EgP}(h:St w M x y pX pY sX sY)(hs:sX.sn=true)(hg:sX.g≤1000000)(hl:(ulT sX.E).length≤900000):
  Calls prog 17 #[.pointer (some ⟨pX,0,none⟩)] w fun e w'=>e=.returned (.string (bsA (ulT sX.E)))∧Below pX w w'∧RowsKeep w w'∧St w' M x y pX pY sX sY:=by
 refine h.call fun c a hA hE=>?_
 have hsh:=hE.sh
 rw[if_pos hs] at hsh
 obtain⟨b,ns,s1,s2,s3⟩:=hsh
 have et:=ul_tree (b:=b) s2
 refine (Tree_ok hA (n:=ulA b sX.E ns) s1 (by omega) (by rw[et];exact hl)).mono fun e w1 ⟨he,hb1,hA1⟩=>?_
 rw[et] at he
 exact⟨he,c,a,hA1,hE,⟨rfl,rfl,rfl,rfl⟩,hb1⟩
theorem st_model {w:World}{M:Nat}{x y:Bool}{pX pY:Nat}{sX sY:EgP}(h:St w M x y pX pY sX sY):
  Calls prog 22 #[.pointer (some ⟨pX,0,none⟩)] w fun e w'=>e=.returned (.string ⟨(wrV sX.m).toArray⟩)∧Below pX w w'∧RowsKeep w w'∧St w' M x y pX pY sX sY:=by
 refine h.call fun c a hA hE=>?_
 refine (Model_ok hA).mono fun e w1 ⟨he,hb1,hA1⟩=>?_
 rw[hE.model] at he
 exact⟨he,c,a,hA1,hE,⟨rfl,rfl,rfl,rfl⟩,hb1⟩
theorem st_counts {w:World}{M:Nat}{x y:Bool}{pX pY:Nat}{sX sY:EgP}(h:St w M x y pX pY sX sY):
  Calls prog 24 #[.pointer (some ⟨pX,0,none⟩)] w fun e w'=>(∃a b:Int,e=.returned (.agg #[.int .i64 a,.int .i64 ((sX.fl:Nat):Int),.int .i64 b,.int .i64 ((sX.fr:Nat):Int),.int .i64 ((sX.lz:Nat):Int)]))∧Below pX w w'∧TyKeep 51 w w'∧St w' M x y pX pY sX sY:=by
 obtain⟨cX,aX,cY,aY,h1,h2,h3⟩:=h
 refine (Counts_ok h1.A.frameC).mono fun e w' ⟨he,hb,hA⟩=>?_
 obtain⟨d1,_,d2⟩:=h1.step hA rfl rfl rfl rfl hb.size
 refine⟨⟨((aX.queue.length:Nat):Int),((aX.dropped:Nat):Int),?_⟩,hb,d2,cX,_,cY,aY.fo cX,d1,h2.fc w pX cX,h3.fo cX⟩
 rw[he]
 show Ending.returned (cntV aX)=_
 rw[cntV,h2.fl,h2.fr,h2.lz]
theorem st_event_no {w:World}{M:Nat}{x y:Bool}{pX pY:Nat}{sX sY:EgP}(h:St w M x y pX pY sX sY)(hs:sX.sn=true){p:Nat}(hp:sX.E.length≤p)(hp2:p≤1000){pv:Value}(hseg:SegAt w TT 3 1 pv 1 [.int .i64 ((p:Nat):Int)])(ev:ByteArray):
  Calls prog 23 #[.pointer (some ⟨pX,0,none⟩),pv,.string ev] w fun e w'=>(∃t y,e=.returned (.tuple #[.int .i64 0,.iface t y]))∧Below pX w w'∧RowsKeep w w'∧St w' M x y pX pY sX sY:=by
 refine h.call fun c a hA hE=>?_
 have hsh:=hE.sh
 rw[if_pos hs] at hsh
 obtain⟨b,ns,s1,s2,s3⟩:=hsh
 have hlen:=s2.get.1
 refine (Event_no hA (n:=ulA b sX.E ns) s1 [p] pv hseg (by simp) (by simp;omega) ev ?_).mono fun e w1 ⟨j,he,hb1,hA1⟩=>⟨⟨_,_,he⟩,c,a,hA1,hE,⟨rfl,rfl,rfl,rfl⟩,hb1⟩
 have e1:kidsO (some (topW (ulA b sX.E ns)).1)=ns:=rfl
 have e2:ns[p]?=none:=List.getElem?_eq_none (by omega)
 simp[wayA,stepW,e1,e2]
def tapB:ByteArray:=⟨#[116,97,112]⟩
theorem st_event {w:World}{M:Nat}{x y:Bool}{pX pY:Nat}{sX sY:EgP}(h:St w M x y pX pY sX sY)(hs:sX.sn=true)(hq:sX.q=[]){p:Nat}(hp:p<sX.E.length)(hp2:p≤1000)(hfi:Fine (.txt sX.E[p].1)){pv:Value}(hseg:SegAt w TT 3 1 pv 1 [.int .i64 ((p:Nat):Int)]):
  Calls prog 23 #[.pointer (some ⟨pX,0,none⟩),pv,.string tapB] w fun e w'=>e=.returned (.tuple #[.int .i64 1,.nilIface])∧Below pX w w'∧RowsKeep w w'∧St w' M x y pX pY { sX with q:=[.txt sX.E[p].1] } sY:=by
 refine h.call fun c a hA hE=>?_
 have hsh:=hE.sh
 rw[if_pos hs] at hsh
 obtain⟨b,ns,s1,s2,s3⟩:=hsh
 obtain⟨hlen,hget⟩:=s2.get
 obtain⟨n,hn,hk⟩:=hget p hp
 obtain⟨q,q1,hb,_,htg,_⟩:=hk.bare
 have L:=ky_loads x
 have hq0:a.queue=[]:=hE.queue.trans hq
 have ef:(wayA (topW (ulA b sX.E ns)) [p]).map (topW (ulA b sX.E ns)::·)=some [(ulA b sX.E ns,[]),(liA q q1 sX.E[p],[])]:=by
  have e4:kidsO (some (ulA b sX.E ns))=ns:=rfl
  have e3:topW (ulA b sX.E ns)=(ulA b sX.E ns,[]):=rfl
  simp[wayA,stepW,hn,hb,htg,e3,e4]
 refine (Event_ok L.ok L.un hA (n:=ulA b sX.E ns) s1 [p] pv hseg (by simp) (by simp;omega) tapB _ ef (fun z hz=>?_) [.txt sX.E[p].1] ?_ (by rw[hE.drop];omega)).mono fun e w1 ⟨c1,he,hb1,hA1⟩=>?_
 ·simp only[List.mem_cons,List.not_mem_nil,or_false] at hz
  rcases hz with rfl | rfl
  ·exact⟨by show 0≤1000;omega,fun z hz=>by simp[ulA,hdsA] at hz⟩
  ·refine⟨by show 1≤1000;omega,fun z hz=>?_⟩
   have hz:z∈tapHs sX.E[p].1:=hz
   rw[tapHs,List.mem_singleton] at hz
   subst hz
   exact hfi
 ·simp[askA,askH,hdsA,ulA,liA,tapHs,msgsA,msgA,tapB,stopH]
 ·have el:layA a [.txt sX.E[p].1]={ a with queue:=[.txt sX.E[p].1] }:=by simp[layA,hq0]
  have en:layN a [.txt sX.E[p].1]=1:=by simp[layN,hq0]
  rw[el] at hA1
  rw[en] at he
  exact⟨he,c1,_,hA1,⟨hE.sh,rfl,hE.drop,hE.lz,hE.fr,hE.fl,hE.model,hE.hd⟩,⟨rfl,rfl,rfl,rfl⟩,hb1⟩
def newc (l0 l:List Nat):Nat:=(l.filter fun x=>decide (x ∉ l0)).length
theorem frsh_new {E:List Ent}{l0:List Nat}(hE:E.map (·.1)=l0.map keyB)(h0:OrdOk l0):∀{l:List Nat},(∀k∈l,k<12)→frsh E (l.map keyB)=newc l0 l
 | [],_=>rfl
 | x::r,hl=>by
  have ih:=frsh_new hE h0 (l:=r) fun k hk=>hl k (by simp[hk])
  rw[List.map_cons,frsh_cons,ih]
  have hx:=hl x (by simp)
  unfold newc
  rw[List.filter_cons]
  by_cases hm:x∈l0
  ·obtain⟨m,hm',rfl⟩:=List.getElem_of_mem hm
   have hlen:E.length=l0.length:=by have:=congrArg List.length hE;simpa using this
   have e1:=fdE_at hE h0 hm'
   rw[List.getElem?_eq_getElem (by omega)] at e1
   unfold fdE at e1
   rw[e1]
   simp[hm]
  ·have e1:=fdE_none hE h0.lt hx hm
   unfold fdE at e1
   rw[e1]
   simp[hm]
   omega
theorem newc_snoc (l0:List Nat){l:List Nat}{k:Nat}(hk:k<l.length):newc l0 (l.take (k+1))=newc l0 (l.take k)+(if l[k]∈l0 then 0 else 1):=by
 unfold newc
 rw[List.take_succ_eq_append_getElem hk,List.filter_append,List.length_append]
 by_cases hm:l[k]∈l0<;>simp[hm]
theorem newc_le (l0 l:List Nat):newc l0 l≤l.length:=List.length_filter_le _ _
structure EgI (w wr:World)(M pA pB i:Nat)(l:List Nat)(sl:Value)(s:EgP)(lz:Nat):Prop where
 bel:Below w.heap.size w wr
 st:St wr M false true pA pB { s with lz:=0 } { s with lz:=lz }
 row:wr.ownsRow 0 3 1 sl l.length (l.map intV)
 hl:OrdOk l
 keys:s.E.map (·.1)=l.map keyB
 ok:EnOk s.E s.g
 gr:s.g≤1+18*i
 fr:s.fr≤i
 fl:s.fl≤i
 lzb:lz≤9*i
 q:s.q=[]
 hab:w.heap.size≤pA∧w.heap.size≤pB
structure EgM (w wr:World)(M pA pB i:Nat)(l0:List Nat)(sl0:Value)(l:List Nat)(sl:Value)(s:EgP)(lz0:Nat):Prop where
 bel:Below w.heap.size w wr
 st:St wr M false true pA pB { s with lz:=0 } { s with lz:=lz0+newc l0 l }
 row0:wr.ownsRow 0 3 1 sl0 l0.length (l0.map intV)
 row:wr.ownsRow 0 3 1 sl l.length (l.map intV)
 hl:OrdOk l
 hl0:OrdOk l0
 keys:s.E.map (·.1)=l.map keyB
 ok:EnOk s.E s.g
 gr:s.g≤1+18*(i+1)
 fr:s.fr≤i+1
 fl:s.fl≤i
 lzb:lz0≤9*i
 q:s.q=[]
 sn:s.sn=true
 hab:w.heap.size≤pA∧w.heap.size≤pB
theorem EgM.next {w wr:World}{M pA pB i:Nat}{l0:List Nat}{sl0:Value}{l:List Nat}{sl:Value}{s:EgP}{lz0:Nat}(h:EgM w wr M pA pB i l0 sl0 l sl s lz0):EgI w wr M pA pB (i+1) l sl s (lz0+newc l0 l) :=
 ⟨h.bel,h.st,h.row,h.hl,h.keys,h.ok,h.gr,h.fr,by have:=h.fl;omega,by have:=h.lzb;have:=newc_le l0 l;have:=h.hl.len;omega,h.q,h.hab⟩
theorem owns_rows {w w':World}{v:Value}{n:Nat}{xs:List Value}(h:w.ownsRow 0 3 1 v n xs)(hk:RowsKeep w w'):w'.ownsRow 0 3 1 v n xs:=owns_keep h fun q hq=>by
 obtain⟨cur,hc⟩:=owns_block h hq
 exact hk q ⟨cur,Or.inl hc⟩
theorem ul_len {E:List Ent}{l:List Nat}{g:Nat}(hE:E.map (·.1)=l.map keyB)(hl:OrdOk l)(ho:EnOk E g)(hg:g≤1000000):(ulT E).length≤2000:=by
 have:=ents_len hE hl.lt ho hg
 have:=hl.len
 simp[ulT]
 omega
theorem eg_round {w wr:World}{M pA pB i:Nat}{l0:List Nat}{sl0:Value}{s:EgP}{lz:Nat}(h:EgI w wr M pA pB i l0 sl0 s lz)(hi:i<20){sl':Value}{raw:List Int}(hr:IntsAt wr sl' raw)(hall:∀x∈raw,In64 x):
  Calls prog 18 #[sl'] wr fun e w1=>∃(t T:ByteArray) (l:List Nat) (vad:Option Addr) (vcap:Nat),e=.returned (.tuple #[.string t,.slice vad l.length vcap]) ∧
   Calls prog 19 #[.pointer (some ⟨pA,0,none⟩),.string t] w1 fun e w2=>e=.returned .nilIface ∧
   Calls prog 19 #[.pointer (some ⟨pB,0,none⟩),.string t] w2 fun e w3=>e=.returned .nilIface ∧
   Calls prog 20 #[.pointer (some ⟨pA,0,none⟩),.int .i64 3] w3 fun e w4=>e=.returned (.int .i64 1) ∧
   Calls prog 20 #[.pointer (some ⟨pB,0,none⟩),.int .i64 3] w4 fun e w5=>e=.returned (.int .i64 1) ∧
   Calls prog 16 #[.pointer (some ⟨pA,0,none⟩)] w5 fun e w6=>e=.returned .nilIface ∧
   Calls prog 16 #[.pointer (some ⟨pB,0,none⟩)] w6 fun e w7=>e=.returned .nilIface ∧
   Calls prog 17 #[.pointer (some ⟨pA,0,none⟩)] w7 fun e w8=>e=.returned (.string T) ∧
   Calls prog 17 #[.pointer (some ⟨pB,0,none⟩)] w8 fun e w9=>e=.returned (.string T) ∧
   Calls prog 22 #[.pointer (some ⟨pA,0,none⟩)] w9 fun e wa=>e=.returned (.string t) ∧
   Calls prog 22 #[.pointer (some ⟨pB,0,none⟩)] wa fun e wb=>e=.returned (.string t)∧∃s',EgM w wb M pA pB i l0 sl0 l (.slice vad l.length vcap) s' lz:=by
 refine (order_any raw sl' wr hr hall).mono fun e w1 hp=>?_
 obtain⟨v,he,hown,hb1⟩:=hp
 have hl:OrdOk (ordA [] raw):=ordA_ok ⟨by simp,by simp,by simp⟩
 generalize ordA [] raw=l at *
 obtain⟨vad,vcap,rfl⟩:=owns_slice hown
 have hgr:=h.gr
 have hfr:=h.fr
 have hlz:=h.lzb
 have hq:=h.q
 obtain⟨hA,hB⟩:=h.hab
 have hno:=nxt_ok h.ok hl l.length (Nat.le_refl _)
 rw[List.take_length] at hno
 have hLn:=hl.len
 have hul:=ul_len (nxt_keys s.E (l.map keyB) s.g) hl hno.1 (by omega)
 have hd0:RowsKeep wr w1:=RowsKeep.of_below hb1
 refine⟨_,bsA (ulT (nxt s.E s.g (l.map keyB)).1),l,vad,vcap,he,?_⟩
 refine (st_send (h.st.below hb1) hq hl).mono fun e w2 ⟨he,b2,k2,S2⟩=>⟨he,?_⟩
 refine (st_send S2.symm hq hl).mono fun e w3 ⟨he,b3,k3,S3⟩=>⟨he,?_⟩
 refine (st_pump S3.symm rfl 2 (by omega)).mono fun e w4 ⟨he,b4,k4,S4⟩=>⟨he,?_⟩
 refine (st_pump S4.symm rfl 2 (by omega)).mono fun e w5 ⟨he,b5,k5,S5⟩=>⟨he,?_⟩
 refine (st_frame S5.symm hl rfl rfl (by show s.g≤_;omega) (by show 0≤_;omega) (by show s.fr≤_;omega)).mono fun e w6 ⟨he,b6,k6,S6⟩=>⟨he,?_⟩
 refine (st_frame S6.symm hl rfl rfl (by show s.g≤_;omega) (by show lz≤_;omega) (by show s.fr≤_;omega)).mono fun e w7 ⟨he,b7,k7,S7⟩=>⟨he,?_⟩
 refine (st_tree S7.symm rfl (by show (nxt s.E s.g (l.map keyB)).2≤_;omega) (by show (ulT (nxt s.E s.g (l.map keyB)).1).length≤_;omega)).mono fun e w8 ⟨he,b8,k8,S8⟩=>⟨he,?_⟩
 refine (st_tree S8.symm rfl (by show (nxt s.E s.g (l.map keyB)).2≤_;omega) (by show (ulT (nxt s.E s.g (l.map keyB)).1).length≤_;omega)).mono fun e w9 ⟨he,b9,k9,S9⟩=>⟨he,?_⟩
 have em:wrV (ksV (l.map keyB))=wrV (.lst (l.map keyV)):=by rw[keys_val]
 refine (st_model S9.symm).mono fun e wa ⟨he,ba,ka,Sa⟩=>⟨by rw[he];show Ending.returned (.string ⟨(wrV (ksV (l.map keyB))).toArray⟩)=_;rw[em],?_⟩
 refine (st_model Sa.symm).mono fun e wb ⟨he,bb,kb,Sb⟩=>⟨by rw[he];show Ending.returned (.string ⟨(wrV (ksV (l.map keyB))).toArray⟩)=_;rw[em],?_⟩
 have kk:=(((((((((hd0.trans k2).trans k3).trans k4).trans k5).trans k6).trans k7).trans k8).trans k9).trans ka).trans kb
 have kk1:=((((((((k2.trans k3).trans k4).trans k5).trans k6).trans k7).trans k8).trans k9).trans ka).trans kb
 refine⟨{ s with E:=(nxt s.E s.g (l.map keyB)).1,g:=(nxt s.E s.g (l.map keyB)).2,fr:=s.fr+1,hd:=false,sn:=true,q:=[],m:=ksV (l.map keyB) },?_,?_,owns_rows h.row kk,owns_rows (owns_mono hown (Nat.zero_le _)) kk1,hl,h.hl,nxt_keys _ _ _,hno.1,by show (nxt s.E s.g (l.map keyB)).2≤_;omega,by show s.fr+1≤_;omega,h.fl,hlz,rfl,rfl,hA,hB⟩
 ·exact (((((((((((h.bel.trans (hb1.mono h.bel.size)).trans (b2.mono hA)).trans (b3.mono hB)).trans (b4.mono hA)).trans (b5.mono hB)).trans (b6.mono hA)).trans (b7.mono hB)).trans (b8.mono hA)).trans (b9.mono hB)).trans (ba.mono hA)).trans (bb.mono hB))
 ·have e1:frsh s.E (l.map keyB)=newc l0 l:=frsh_new h.keys h.hl hl.lt
  have:=Sb.symm
  simp only[if_true,Bool.false_eq_true,if_false,Nat.add_zero,e1] at this
  exact this
theorem eg_tap {w wr:World}{M pA pB i:Nat}{l0:List Nat}{sl0:Value}{l:List Nat}{vad:Option Addr}{vcap:Nat}{s:EgP}{lz0:Nat}(h:EgM w wr M pA pB i l0 sl0 l (.slice vad l.length vcap) s lz0)(hi:i<20){p:Nat}(hp:p<l.length){X:World}(hX:Below wr.heap.size wr X){pb:Nat}(hpb:X.heap[pb]?=some (.cells #[.int .i64 ((p:Nat):Int)] 3)):
  ∃gv,vad=some ⟨gv,0,none⟩∧l.length≤vcap∧vcap≤9223372036854775807∧l[p]<12 ∧
  Calls prog 23 #[.pointer (some ⟨pA,0,none⟩),.slice (some ⟨pb,0,none⟩) 1 1,.string tapB] X fun e w1=>e=.returned (.tuple #[.int .i64 1,.nilIface]) ∧
   Calls prog 23 #[.pointer (some ⟨pB,0,none⟩),.slice (some ⟨pb,0,none⟩) 1 1,.string tapB] w1 fun e w2=>e=.returned (.tuple #[.int .i64 1,.nilIface])∧w2.cell? ⟨pb,0,none⟩=some (.int .i64 ((p:Nat):Int)) ∧
   Calls prog 20 #[.pointer (some ⟨pA,0,none⟩),.int .i64 1] w2 fun e w3=>e=.returned (.int .i64 1) ∧
   Calls prog 20 #[.pointer (some ⟨pB,0,none⟩),.int .i64 1] w3 fun e w4=>e=.returned (.int .i64 1) ∧
   Calls prog 22 #[.pointer (some ⟨pA,0,none⟩)] w4 fun e w5=>e=.returned (.string ((⟨#[39,107]⟩:ByteArray)++⟨(itoa ((l[p]:Nat):Int)).toArray⟩++⟨#[39]⟩))∧w5.cell? ⟨pb,0,none⟩=some (.int .i64 ((p:Nat):Int))∧w5.cell? ⟨gv,p,none⟩=some (.int .i64 ((l[p]:Nat):Int)) ∧
   Calls prog 22 #[.pointer (some ⟨pB,0,none⟩)] w5 fun e w6=>e=.returned (.string ((⟨#[39,107]⟩:ByteArray)++⟨(itoa ((l[p]:Nat):Int)).toArray⟩++⟨#[39]⟩)) ∧
   Calls prog 16 #[.pointer (some ⟨pA,0,none⟩)] w6 fun e w7=>(∃t y,e=.returned (.iface t y)) ∧
   Calls prog 16 #[.pointer (some ⟨pB,0,none⟩)] w7 fun e w8=>(∃t y,e=.returned (.iface t y)) ∧
   ∃T,Calls prog 17 #[.pointer (some ⟨pA,0,none⟩)] w8 fun e w9=>e=.returned (.string T) ∧
   Calls prog 17 #[.pointer (some ⟨pB,0,none⟩)] w9 fun e wa=>e=.returned (.string T)∧∃s',EgI w wa M pA pB (i+1) l (.slice vad l.length vcap) s' (lz0+newc l0 l):=by
 obtain⟨gv,vcap',hv,c1,c2,hc,cur,hcur⟩:=owns_cell h.row hp
 cases hv
 have hx:=h.hl.lt _ (List.getElem_mem hp)
 have hlen:s.E.length=l.length:=by have:=congrArg List.length h.keys;simpa using this
 have hgr:=h.gr
 have hfl:=h.fl
 have hLn:=h.hl.len
 obtain⟨hA,hB⟩:=h.hab
 have hul:=ul_len h.keys h.hl h.ok (by omega)
 have ek:(s.E[p]'(by omega)).1=keyB l[p]:=by
  have:=congrArg (·[p]?) h.keys
  simp only[List.getElem?_map,List.getElem?_eq_getElem hp,List.getElem?_eq_getElem (show p<s.E.length by omega)] at this
  simpa using this
 have hfi:Fine (.txt (s.E[p]'(by omega)).1):=by
  rw[ek]
  have:=itoa12 hx
  refine⟨by rw[okV];trivial,?_⟩
  simp[wtV,keyB]
  omega
 have seg:∀Y,RowsKeep X Y→SegAt Y TT 3 1 (.slice (some ⟨pb,0,none⟩) 1 1) 1 [.int .i64 ((p:Nat):Int)]:=fun Y hk=>⟨rfl,Or.inr ⟨pb,0,1,_,rfl,trivial,(hk pb ⟨_,Or.inl hpb⟩).trans hpb,Nat.le_refl _,by unfold maxLen;omega,by simp,by simp⟩⟩
 have cp:∀Y,RowsKeep X Y→Y.cell? ⟨pb,0,none⟩=some (.int .i64 ((p:Nat):Int)):=fun Y hk=>by rw[cell_of ((hk pb ⟨_,Or.inl hpb⟩).trans hpb)];rfl
 have hcX:=(hX.block gv (block_lt hcur)).trans hcur
 have cv:∀Y,RowsKeep X Y→Y.cell? ⟨gv,p,none⟩=some (.int .i64 ((l[p]:Nat):Int)):=fun Y hk=>by
  rw[cell_of ((hk gv ⟨_,Or.inl hcX⟩).trans hcX),←cell_of hcur]
  exact hc
 have es:(⟨(wrV (.txt (keyB l[p]))).toArray⟩:ByteArray)=((⟨#[39,107]⟩:ByteArray)++⟨(itoa ((l[p]:Nat):Int)).toArray⟩++⟨#[39]⟩):=by
  apply ByteArray.ext
  simp[wrV,keyB]
 refine⟨gv,rfl,c1,c2,hx,?_⟩
 refine (st_event (h.st.below hX) h.sn h.q (p:=p) (by show p<s.E.length;omega) (by omega) hfi (seg X fun q _=>rfl)).mono fun e w1 ⟨he,b1,k1,S1⟩=>⟨he,?_⟩
 refine (st_event S1.symm h.sn h.q (p:=p) (by show p<s.E.length;omega) (by omega) hfi (seg w1 k1)).mono fun e w2 ⟨he,b2,k2,S2⟩=>⟨he,cp w2 (k1.trans k2),?_⟩
 refine (st_pump S2.symm rfl 0 (by omega)).mono fun e w3 ⟨he,b3,k3,S3⟩=>⟨he,?_⟩
 refine (st_pump S3.symm rfl 0 (by omega)).mono fun e w4 ⟨he,b4,k4,S4⟩=>⟨he,?_⟩
 have kx:=((k1.trans k2).trans k3).trans k4
 refine (st_model S4.symm).mono fun e w5 ⟨he,b5,k5,S5⟩=>⟨by rw[he,←es];show Ending.returned (.string ⟨(wrV (.txt (s.E[p]'(by omega)).1)).toArray⟩)=_;rw[ek],cp w5 (kx.trans k5),cv w5 (kx.trans k5),?_⟩
 refine (st_model S5.symm).mono fun e w6 ⟨he,b6,k6,S6⟩=>⟨by rw[he,←es];show Ending.returned (.string ⟨(wrV (.txt (s.E[p]'(by omega)).1)).toArray⟩)=_;rw[ek],?_⟩
 refine (st_frame_no S6.symm rfl rfl (by show s.fl≤_;omega)).mono fun e w7 ⟨he,b7,k7,S7⟩=>⟨he,?_⟩
 refine (st_frame_no S7.symm rfl rfl (by show s.fl≤_;omega)).mono fun e w8 ⟨he,b8,k8,S8⟩=>⟨he,bsA (ulT s.E),?_⟩
 refine (st_tree S8.symm h.sn (by show s.g≤_;omega) (by show (ulT s.E).length≤_;omega)).mono fun e w9 ⟨he,b9,k9,S9⟩=>⟨he,?_⟩
 refine (st_tree S9.symm h.sn (by show s.g≤_;omega) (by show (ulT s.E).length≤_;omega)).mono fun e wa ⟨he,ba,ka,Sa⟩=>⟨he,?_⟩
 have kk:=(((((RowsKeep.of_below hX).trans kx).trans k5).trans k6).trans k7).trans ((k8.trans k9).trans ka)
 refine⟨{ s with fl:=s.fl+1,hd:=false,q:=[],m:=.txt (s.E[p]'(by omega)).1 },?_,Sa.symm,owns_rows h.row kk,h.hl,h.keys,h.ok,hgr,h.fr,by show s.fl+1≤_;omega,by have:=h.lzb;have:=newc_le l0 l;omega,rfl,hA,hB⟩
 exact ((((((((((h.bel.trans (hX.mono h.bel.size)).trans (b1.mono hA)).trans (b2.mono hB)).trans (b3.mono hA)).trans (b4.mono hB)).trans (b5.mono hA)).trans (b6.mono hB)).trans (b7.mono hA)).trans (b8.mono hB)).trans (b9.mono hA)).trans (ba.mono hB)
theorem eg_miss {w wr:World}{M pA pB i:Nat}{l0:List Nat}{sl0:Value}{l:List Nat}{sl:Value}{s:EgP}{lz0:Nat}(h:EgM w wr M pA pB i l0 sl0 l sl s lz0)(_hi:i<20){p:Nat}(hp:¬ p<l.length)(hp2:p<10){X:World}(hX:Below wr.heap.size wr X){pb:Nat}(hpb:X.heap[pb]?=some (.cells #[.int .i64 ((p:Nat):Int)] 3)):
  Calls prog 23 #[.pointer (some ⟨pA,0,none⟩),.slice (some ⟨pb,0,none⟩) 1 1,.string tapB] X fun e w1=>(∃t y,e=.returned (.tuple #[.int .i64 0,.iface t y])) ∧
   Calls prog 23 #[.pointer (some ⟨pB,0,none⟩),.slice (some ⟨pb,0,none⟩) 1 1,.string tapB] w1 fun e w2=>(∃t y,e=.returned (.tuple #[.int .i64 0,.iface t y]))∧w2.cell? ⟨pb,0,none⟩=some (.int .i64 ((p:Nat):Int))∧EgI w w2 M pA pB (i+1) l sl s (lz0+newc l0 l):=by
 have hlen:s.E.length=l.length:=by have:=congrArg List.length h.keys;simpa using this
 obtain⟨hA,hB⟩:=h.hab
 have seg:∀Y,RowsKeep X Y→SegAt Y TT 3 1 (.slice (some ⟨pb,0,none⟩) 1 1) 1 [.int .i64 ((p:Nat):Int)]:=fun Y hk=>⟨rfl,Or.inr ⟨pb,0,1,_,rfl,trivial,(hk pb ⟨_,Or.inl hpb⟩).trans hpb,Nat.le_refl _,by unfold maxLen;omega,by simp,by simp⟩⟩
 have cp:∀Y,RowsKeep X Y→Y.cell? ⟨pb,0,none⟩=some (.int .i64 ((p:Nat):Int)):=fun Y hk=>by rw[cell_of ((hk pb ⟨_,Or.inl hpb⟩).trans hpb)];rfl
 refine (st_event_no (h.st.below hX) h.sn (p:=p) (by show s.E.length≤p;omega) (by omega) (seg X fun q _=>rfl) tapB).mono fun e w1 ⟨he,b1,k1,S1⟩=>⟨he,?_⟩
 refine (st_event_no S1.symm h.sn (p:=p) (by show s.E.length≤p;omega) (by omega) (seg w1 k1) tapB).mono fun e w2 ⟨he,b2,k2,S2⟩=>⟨he,cp w2 (k1.trans k2),?_⟩
 have kk:=((RowsKeep.of_below hX).trans k1).trans k2
 exact⟨((h.bel.trans (hX.mono h.bel.size)).trans (b1.mono hA)).trans (b2.mono hB),S2.symm,owns_rows h.row kk,h.hl,h.keys,h.ok,h.gr,h.fr,by have:=h.fl;omega,by have:=h.lzb;have:=newc_le l0 l;have:=h.hl.len;omega,h.q,hA,hB⟩
def egS0:EgP:=⟨[],1,0,0,0,ksV [],[],false,false⟩
theorem knewq_ok (way:Bool)(w:World)(E:Nat→Addr)(G:G0 w E):
  Calls prog 14 #[.string (kyB2 way)] w (newQ w (kyF way) (ksV [])):=by
 have L:=ky_loads way
 obtain⟨ts,rest,t1,t2,t3⟩:=L.ex
 have hs:(kyB2 way).size=(kyL way).length:=by cases way<;>kernel_rfl
 rw[←kyB_list] at t1
 rw[←hs] at t2
 exact Newq_ok L.ok L.un (kyB2 way) w E G.er G.fl G.nu G.sz (by rw[hs];cases way<;>decide +kernel) t1 t2 t3 (ksV []) (ky_init way)
theorem eg_start (w:World)(E:Nat→Addr)(G:G0 w E):
  Calls prog 14 #[.string (kyB2 false)] w fun e w1=>∃pA,e=.returned (.tuple #[.pointer (some ⟨pA,0,none⟩),.nilIface]) ∧
   Calls prog 14 #[.string (kyB2 true)] w1 fun e w2=>∃pB,e=.returned (.tuple #[.pointer (some ⟨pB,0,none⟩),.nilIface])∧EgI w w2 pB pA pB 0 [] (.slice none 0 0) egS0 0:=by
 refine (knewq_ok false w E G).mono fun e w1 ⟨pA,cA,he,hab,hb,hA,hqA⟩=>⟨pA,he,?_⟩
 refine (knewq_ok true w1 E (G.below hb)).mono fun e w2 ⟨pB,cB,he2,hab2,hb2,hB,hqB⟩=>⟨pB,he2,?_⟩
 have l1:=hA.lt
 have l2:=hB.lt
 have hs:=hb.size
 have oA:∀q,cA.qv.ownBlock≠some q:=fun q e=>by rw[hqA] at e;cases e
 have oB:∀q,cB.qv.ownBlock≠some q:=fun q e=>by rw[hqB] at e;cases e
 refine⟨hb.trans (hb2.mono hs),⟨cA,_,cB,_,⟨hA.below hb2,hB,by omega,by omega,Nat.le_refl _,l2,(fun n m hn=>nomatch hn),fun q hq=>absurd hq (oA q),fun q hq=>absurd hq (oB q),fun q hq=>absurd hq (oA q),(fun n hn=>nomatch hn),(fun n hn=>nomatch hn),fun q hq=>absurd hq (oA q),fun q hq=>absurd hq (oB q),fun q hq=>?_,fun q hq=>?_⟩,?_,?_⟩,World.ownsRow_nil _ _ _ _,⟨by simp,by simp,by simp⟩,rfl,⟨fun e he=>by simp[egS0] at he⟩,by show 1≤_;omega,by show 0≤_;omega,by show 0≤_;omega,by omega,rfl,hab,by omega⟩
 ·have:=hq.1
  omega
 ·have h1:=hq.1
  have h2:w1.heap.size≤q:=hq.2
  omega
 ·exact⟨⟨rfl,rfl,rfl,rfl⟩,rfl,rfl,rfl,rfl,rfl,rfl,rfl⟩
 ·exact⟨⟨rfl,rfl,rfl,rfl⟩,rfl,rfl,rfl,rfl,rfl,rfl,rfl⟩
theorem eg_end {w wr:World}{M pA pB i:Nat}{l:List Nat}{sl:Value}{s:EgP}{lz:Nat}(h:EgI w wr M pA pB i l sl s lz):
  Calls prog 24 #[.pointer (some ⟨pA,0,none⟩)] wr fun e w1=>∃a b:Int,e=.returned (.agg #[.int .i64 a,.int .i64 ((s.fl:Nat):Int),.int .i64 b,.int .i64 ((s.fr:Nat):Int),.int .i64 0]) ∧
   ∀X,X=w1.alloc (.cells #[.int .i64 a,.int .i64 ((s.fl:Nat):Int),.int .i64 b,.int .i64 ((s.fr:Nat):Int),.int .i64 0] 51)→Calls prog 24 #[.pointer (some ⟨pB,0,none⟩)] X fun e w2=>∃c d:Int,e=.returned (.agg #[.int .i64 c,.int .i64 ((s.fl:Nat):Int),.int .i64 d,.int .i64 ((s.fr:Nat):Int),.int .i64 ((lz:Nat):Int)]) ∧
    ∀Y,Y=w2.alloc (.cells #[.int .i64 c,.int .i64 ((s.fl:Nat):Int),.int .i64 d,.int .i64 ((s.fr:Nat):Int),.int .i64 ((lz:Nat):Int)] 51)→Y.cell? ⟨w1.heap.size,1,none⟩=some (.int .i64 ((s.fl:Nat):Int))∧Y.cell? ⟨w1.heap.size,3,none⟩=some (.int .i64 ((s.fr:Nat):Int))∧Y.cell? ⟨w1.heap.size,4,none⟩=some (.int .i64 0)∧Y.cell? ⟨w2.heap.size,1,none⟩=some (.int .i64 ((s.fl:Nat):Int))∧Y.cell? ⟨w2.heap.size,3,none⟩=some (.int .i64 ((s.fr:Nat):Int))∧Y.cell? ⟨w2.heap.size,4,none⟩=some (.int .i64 ((lz:Nat):Int))∧Below w.heap.size w Y:=by
 obtain⟨hA,hB⟩:=h.hab
 refine (st_counts h.st).mono fun e w1 ⟨⟨a,b,he⟩,b1,_,S1⟩=>⟨a,b,he,fun X hX=>?_⟩
 have bX:Below w1.heap.size w1 X:=by rw[hX];exact below1 _ _
 have qX:X.heap[w1.heap.size]?=some (.cells #[.int .i64 a,.int .i64 ((s.fl:Nat):Int),.int .i64 b,.int .i64 ((s.fr:Nat):Int),.int .i64 0] 51):=by rw[hX];exact heap_alloc_new _ _
 refine (st_counts (S1.below bX).symm).mono fun e w2 ⟨⟨c,d,he2⟩,b2,t2,S2⟩=>⟨c,d,he2,fun Y hY=>?_⟩
 have bY:Below w2.heap.size w2 Y:=by rw[hY];exact below1 _ _
 have qY:Y.heap[w2.heap.size]?=some (.cells #[.int .i64 c,.int .i64 ((s.fl:Nat):Int),.int .i64 d,.int .i64 ((s.fr:Nat):Int),.int .i64 ((lz:Nat):Int)] 51):=by rw[hY];exact heap_alloc_new _ _
 have q2:=t2 _ _ qX
 have q3:=(bY.block _ (block_lt q2)).trans q2
 refine⟨by rw[cell_of q3];rfl,by rw[cell_of q3];rfl,by rw[cell_of q3];rfl,by rw[cell_of qY];rfl,by rw[cell_of qY];rfl,by rw[cell_of qY];rfl,?_⟩
 have c1:=h.bel.trans (b1.mono hA)
 have c2:=c1.trans (bX.mono c1.size)
 have c3:=c2.trans (b2.mono hB)
 exact c3.trans (bY.mono c3.size)
end Go.Proofs.YtifhgjpglicjbaaGreatDoor
