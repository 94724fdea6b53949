/-
  Frames, the program: a keyed element that was made.
-/
import Derived.Test.YtifhgjpglicjbaaGreatDoorFrP
import Derived.Deep.DeepCutAuto
import Derived.Test.YtifhgjpglicjbaaGreatDoorVaC
set_option maxHeartbeats 4000000
set_option maxRecDepth 8000
namespace Go.Proofs.YtifhgjpglicjbaaGreatDoor
open Go.Proofs.Tryz
open Go.RowKit Go.Lib
attribute [local go_sem ↓] Go.wp_at_zero Go.wp_at_succ
theorem pairV_fine {v u:PV}{k:List UInt8}(h:pairV v=some (k,u))(hf:Fine v):Fine u:=by
 unfold pairV at h
 split at h
 ·cases h
  exact hf.item (by simp)
 ·cases h
theorem pairL_good:∀{l:List PV} {ks0 ks:List (List UInt8)} {vs0 vs:List PV},pairL ks0 vs0 l=some (ks,vs)→ks0.length=vs0.length→ks0.Nodup→(∀v∈vs0,Fine v)→(∀v∈l,Fine v)→ks.length=vs.length∧ks.Nodup∧(∀v∈vs,Fine v)∧vs.length=vs0.length+l.length
 | [],ks0,ks,vs0,vs,h,h1,h2,h3,h4=>by
  rw[pairL] at h
  cases h
  exact⟨h1,h2,h3,by simp⟩
 | v::r,ks0,ks,vs0,vs,h,h1,h2,h3,h4=>by
  rw[pairL_step] at h
  cases e:pairV v with
  | none=>rw[e] at h;cases h
  | some x =>
   obtain⟨k,u⟩:=x
   rw[e] at h
   simp only at h
   split at h
   ·cases h
   ·rename_i hin
    have:=pairL_good h (by simp[h1]) (List.nodup_append.2 ⟨h2,by simp,fun a ha b hb e=>by simp at hb;rw[e,hb] at ha;exact hin ha⟩) (fun x hx=>by
     rcases List.mem_append.1 hx with hx | hx
     ·exact h3 x hx
     ·simp at hx;rw[hx];exact pairV_fine e (h4 v (by simp))) (fun x hx=>h4 x (by simp[hx]))
    refine⟨this.1,this.2.1,this.2.2.1,?_⟩
    rw[this.2.2.2]
    simp
    omega
theorem lookK_some {S:LkS}{c z:Nat}{o:Option An}{l:List PV}{k:Ln}{c' z':Nat}(h:lookK S c z o l=some (k,c',z')):∃t ats hs ps keys ks ns,elOf l=some (t,ats,hs,ps)∧pairL [] [] ps=some (keys,ks)∧lookL S (.ky t keys) o 0 c z ks=some (ns,c',z')∧k=.ky t ats hs keys ns:=by
 unfold lookK at h
 split at h
 ·cases h
 ·rename_i t ats hs ps e
  split at h
  ·cases h
  ·rename_i keys ks e1
   split at h
   ·cases h
   ·rename_i ns c1 z1 e2
    simp only[Option.some.injEq,Prod.mk.injEq] at h
    obtain⟨rfl,rfl,rfl⟩:=h
    exact⟨t,ats,hs,ps,keys,ks,ns,e,e1,e2,rfl⟩
theorem keyP_bsA (bs:List ByteArray):(keyP bs).map bsA=bs:=by
 unfold keyP
 rw[List.map_map]
 conv=>rhs;rw[←List.map_id bs]
 exact List.map_congr_left fun b _=>bsA_data b
structure E8 (w:World)(D:Nat→Prop)(B:Nat)(tag:ByteArray)(ats:List (ByteArray×ByteArray))(hs:List Hd)(av hv:Value)(hc:List Value)(kv:Value)(bs:List ByteArray):Prop where
 blk:w.heap[B]?=some (.cells #[.int .i64 0,.bool false,.string ⟨#[]⟩,.string tag,av,hv,.slice none 0 0,kv] 225)
 ra:SegAt w TT 270 2 av ats.length (atC ats)
 rh:SegAt w TT 160 3 hv hs.length hc
 hd:HdC w D hs hc
 rk:StrsAt w TT kv bs
theorem ky_done {D:Nat→Prop}{lb:Nat}{fns:List Fn}{w X0 X1:World}{B:Nat}{tag:ByteArray}{ats:List (ByteArray×ByteArray)}{hs:List Hd}{av hv kv:Value}{bs:List ByteArray}{hc:List Value}{ks:List Ln}{c z:Nat}{ns:List An}{F:List Nat}{nv:Value}
  (hL0:LT lb w X0) (hlb:lb<w.heap.size) (hB:w.heap.size≤B) (hE:E8 X0 D B tag ats hs av hv hc kv bs) (hL:LT lb X0 X1) (hK:LK X1 lb fns c z) (rn:SegAt X1 D 90 1 nv ns.length (ns.map An.val)) (hns:AnsD X1 D ns) (hM:MadeL ks ns F) (hN:F.Nodup) (hF:∀b∈F,X0.heap.size≤b∧b<X1.heap.size) (hb:∀b∈blocksL ns,b∈F∨b<lb) :
  lkP D lb fns w (.ky tag.data.toList (atP ats) hs (keyP bs) ks) c z (.returned (.tuple #[.iface 219 (.pointer (some ⟨B,0,none⟩)),.nilIface])) (X1.setCell ⟨B,6,none⟩ nv):=by
 have hlt:=block_lt hE.blk
 have q1:X1.heap[B]?=some (.cells #[.int .i64 0,.bool false,.string ⟨#[]⟩,.string tag,av,hv,.slice none 0 0,kv] 225):=by
  rw[hL.touch.block B hlt (by show ¬ B=lb;omega)]
  exact hE.blk
 obtain⟨p1,p2,rk,p3,p4,p5⟩:=put_done (j:=6) (u:=nv) hL0 hlb hB hlt hL hK q1 (by decide) hN hF
 have rk1:=hL.rows.trans rk
 refine⟨p1,p2,.ky B mk0 tag.data.toList (atP ats) hs (keyP bs) ns,B::F,rfl,?_,?_,p3,p4,?_⟩
 ·rw[AnD]
  refine⟨⟨av,hv,nv,hc,kv,?_,?_,?_⟩,hns.keep rk fun b hq=>p5 b (hb b hq)⟩
  ·rw[set_block q1,bsA_data];rfl
  ·exact rows7_of (hE.ra.tyKeep rk1.ka) (hE.rh.tyKeep rk1.kh) (hE.hd.keep rk1) (rn.tyKeep rk.kn)
  ·rw[keyP_bsA]
   exact RowAt.tyKeep hE.rk rk1.ks
 ·rw[Made];exact⟨B,ns,F,rfl,rfl,hM⟩
 ·rw[blocksA]
  exact in_cons hb
theorem keyed_of {fns:List Fn}{lb f:Nat}(IH:LDo fns lb f)(D:Nat→Prop)(o:Option An)(l:List PV)(ad:Option Addr)(cap:Nat)(cs:List Value)(c z:Nat)(k:Ln)(c' z':Nat)(w:World)
  (he:lookK (lookA fns f) c z o l=some (k,c',z')) (hz:z≤c) (hc:c≤100) (hK:LK w lb fns c z) (hD:∀g,w.heap.size≤g→D g) (hseg:SegAt w D 74 1 (.slice ad l.length cap) l.length cs) (hvs:VLs w D l cs) (hf:∀v∈l,Fine v) (hw:wtVs l≤600) (hO:OD w D o) (hOk:OldOk lb o) :
  Calls prog 163 #[.pointer (some ⟨lb,0,none⟩),.slice ad l.length cap,valN o] w (lkP D lb fns w k c' z'):=by
 obtain⟨t,ats0,hs0,ps,keys0,vs,ns,e1,e3,e2,rfl⟩:=lookK_some he
 have hfine:=elOf_fine e1 hf
 have hpair:=pairL_good e3 rfl (by simp) (by simp) hfine.1
 have hlb:=hK.lt
 have CE:Calls prog 190 #[.slice ad l.length cap] w (fun e w1=>∃(tag:ByteArray) (ats:List (ByteArray×ByteArray)) (av hv:Value) (hc:List Value) (ad2:Option Addr) (cap2:Nat) (cs2:List Value),
   e=.returned (.tuple #[.agg #[.int .i64 0,.bool false,.string ⟨#[]⟩,.string tag,av,hv,.slice none 0 0],.slice ad2 ps.length cap2,.nilIface])∧Below w.heap.size w w1∧tag.data.toList=t∧atP ats=ats0∧SegAt w1 TT 270 2 av ats.length (atC ats)∧SegAt w1 TT 160 3 hv hs0.length hc∧HdC w1 D hs0 hc∧SegAt w1 D 74 1 (.slice ad2 ps.length cap2) ps.length cs2∧VLs w1 D ps cs2):=by
  refine (elementOf_any D l ad cap cs w hw hseg hvs).mono fun e w1 h=>?_
  obtain⟨hb,⟨tag,ats,hs,ks,av,hv,hc,ad2,cap2,cs2,ho,he,ra,rh,hd,sg,vl⟩ | ⟨ho,_⟩⟩:=h
  ·rw[e1] at ho
   simp only[Option.some.injEq,Prod.mk.injEq] at ho
   obtain⟨rfl,rfl,rfl,rfl⟩:=ho
   exact⟨tag,ats,av,hv,hc,ad2,cap2,cs2,he,hb,rfl,rfl,(SegAt.of_row ra).weaken fun _ _=>trivial,(SegAt.of_row rh).weaken fun _ _=>trivial,hd,sg,vl⟩
  ·rw[e1] at ho;cases ho
 have CU:Hid (∀(X:World) (ad2:Option Addr) (cap2:Nat) (cs2:List Value),w.heap.size≤X.heap.size→SegAt X D 74 1 (.slice ad2 ps.length cap2) ps.length cs2→VLs X D ps cs2→Calls prog 192 #[.slice ad2 ps.length cap2] X (fun e X1=>∃(ka va:Option Addr) (kc vc:Nat) (bs:List ByteArray) (cs3:List Value),e=.returned (.tuple #[.slice ka bs.length kc,.slice va vs.length vc,.nilIface])∧Below X.heap.size X X1∧keyP bs=keys0∧StrsAt X1 TT (.slice ka bs.length kc) bs∧SegAt X1 D 74 1 (.slice va vs.length vc) vs.length cs3∧VLs X1 D vs cs3)):=fun X ad2 cap2 cs2 hXs hs hv=>by
  refine (unpaired_any D ps ad2 cap2 cs2 X hfine.2.2 hs hv).mono fun e w1 h=>?_
  obtain⟨hb,⟨kv,vv,ks,us,cs3,ho,he,ul⟩ | ⟨ho,_⟩⟩:=h
  ·rw[e3] at ho
   simp only[Option.some.injEq,Prod.mk.injEq] at ho
   obtain⟨rfl,rfl⟩:=ho
   obtain⟨ka,kc,rfl⟩:=owns_slice ul.ownK
   obtain⟨va,vc,rfl⟩:=owns_slice ul.ownV
   exact⟨ka,va,kc,vc,ks,cs3,he,hb,rfl,(RowAt.of_owns ul.ownK).weaken fun _ _=>trivial,(SegAt.of_row (RowAt.of_owns ul.ownV)).weaken fun q hq=>hD q (by have:X.heap.size≤q:=hq;omega),ul.vals.weaken fun _ hq=>hq.1⟩
  ·rw[e3] at ho;cases ho
 have EACH:Hid (∀(X:World) (xin:Value) (ad2:Option Addr) (cap2:Nat) (cs2:List Value),LT lb w X→LK X lb fns c z→KindAt X xin (.ky t keys0)→SegAt X D 74 1 (.slice ad2 vs.length cap2) vs.length cs2→VLs X D vs cs2→Calls prog 191 #[.pointer (some ⟨lb,0,none⟩),.slice ad2 vs.length cap2,xin,valN o] X (eaP D lb fns X ns c' z')):=fun X xin ad2 cap2 cs2 hL hK hk hs hv =>
  each_of IH D (.ky t keys0) xin o vs ad2 cap2 cs2 c z ns c' z' X e2 hz hc hK (fun g hg=>hD g (by have:=hL.size;omega)) hs hv hpair.2.2.1 (by have h1:=hpair.2.2.2;have h2:=hfine.2.1;simp at h1;omega) hk (Or.inr ⟨t,keys0,rfl,hpair.1⟩) (hO.lt' hL hOk) hOk
 have LKX:Hid (LK w lb fns c z):=hK
 clear IH hD hO hOk hfine hpair hK e2 he hseg hvs hf e1 e3
 go_enter func163,ntmps163
 go_wp2_with (go_at_call 190;refine CE.mono ?_;rintro e w1 ⟨tag,ats,av,hv,hc,ad2,cap2,cs2,rfl,hb1,ht,ha,ra,rh,hd,sg,vl⟩;clear CE;obtain⟨aa,ac,rfl⟩:=ra.slice;obtain⟨ha2,hac,rfl⟩:=rh.slice)
 subst ht ha
 have hbs:=hb1.size
 have bA:Below w1.heap.size w1 (w1.alloc (.cells #[.int .i64 0,.bool false,.string ⟨#[]⟩,.string tag,.slice aa ats.length ac,.slice ha2 hs0.length hac,.slice none 0 0] 223)):=(Below.refl _ _).alloc (Nat.le_refl _) _
 have q0:(w1.alloc (.cells #[.int .i64 0,.bool false,.string ⟨#[]⟩,.string tag,.slice aa ats.length ac,.slice ha2 hs0.length hac,.slice none 0 0] 223)).heap[w1.heap.size]?=some _:=heap_alloc_new _ _
 generalize w1.alloc (.cells #[.int .i64 0,.bool false,.string ⟨#[]⟩,.string tag,.slice aa ats.length ac,.slice ha2 hs0.length hac,.slice none 0 0] 223)=X0 at *
 have bX:Below w.heap.size w X0:=hb1.trans (bA.mono hbs)
 have CU1:=CU.out X0 ad2 cap2 cs2 bX.size (sg.below bA) (vl.below bA)
 have RA:=ra.below bA
 have RH:=rh.below bA
 have HD:=hd.keep (RK.of_below bA)
 clear CU sg vl ra rh hd
 refine CU1.mono ?_
 rintro e w2 ⟨ka,va,kc,vc,bs,cs3,rfl,hb2,hkeys,hks,sg,vl⟩
 clear CU1
 subst hkeys
 have q2:=(hb2.block _ (block_lt q0)).trans q0
 obtain⟨b0,b1,b2,b3,b4,b5,b6,_⟩:=box7 q2
 have RA2:=RA.below hb2
 have RH2:=RH.below hb2
 have HD2:=HD.keep (RK.of_below hb2)
 have bX2:Below w.heap.size w w2:=bX.trans (hb2.mono bX.size)
 clear RA RH HD q0 q2 hb2 bA bX hb1
 go_wp2_with fail
 have hbs2:=bX2.size
 have bA:Below w2.heap.size w2 (w2.alloc (.cells #[.int .i64 0,.bool false,.string ⟨#[]⟩,.string tag,.slice aa ats.length ac,.slice ha2 hs0.length hac,.slice none 0 0,.slice ka bs.length kc] 225)):=(Below.refl _ _).alloc (Nat.le_refl _) _
 have q0:(w2.alloc (.cells #[.int .i64 0,.bool false,.string ⟨#[]⟩,.string tag,.slice aa ats.length ac,.slice ha2 hs0.length hac,.slice none 0 0,.slice ka bs.length kc] 225)).heap[w2.heap.size]?=some _:=heap_alloc_new _ _
 generalize w2.alloc (.cells #[.int .i64 0,.bool false,.string ⟨#[]⟩,.string tag,.slice aa ats.length ac,.slice ha2 hs0.length hac,.slice none 0 0,.slice ka bs.length kc] 225)=X2 at *
 have bX:Below w.heap.size w X2:=bX2.trans (bA.mono hbs2)
 have SK:StrsAt X2 TT (.slice ka bs.length kc) bs:=RowAt.tyKeep hks (.of_below bA)
 have CA:=EACH.out X2 (.iface 219 (.pointer (some ⟨w2.heap.size,0,none⟩))) va vc cs3 (LT.of_below bX) (LKX.out.below bX) ⟨w2.heap.size,_,rfl,by unfold World.cell?;rw[q0,bsA_data];rfl,by unfold World.cell?;rw[q0];rfl,by rw[keyP_bsA];exact SK⟩ (sg.below bA) (vl.below bA)
 have E0:Hid (E8 X2 D w2.heap.size tag ats hs0 (.slice aa ats.length ac) (.slice ha2 hs0.length hac) hc (.slice ka bs.length kc) bs):=⟨q0,RA2.below bA,RH2.below bA,HD2.keep (RK.of_below bA),SK⟩
 have FR:Hid (∀Y,LT lb X2 Y→∀j,Y.frozen? ⟨w2.heap.size,j,none⟩=false):=fun Y hY j=>by
  unfold World.frozen?
  rw[hY.touch.block w2.heap.size (block_lt q0) (by show ¬ w2.heap.size=lb;omega),q0]
  rfl
 have CELL6:Hid (∀Y,LT lb X2 Y→Y.cell? ⟨w2.heap.size,6,none⟩=some (.slice none 0 0)):=fun Y hY=>by
  unfold World.cell?
  rw[hY.touch.block w2.heap.size (block_lt q0) (by show ¬ w2.heap.size=lb;omega),q0]
  rfl
 clear EACH LKX RA2 RH2 HD2 sg vl q0 bA hks SK b0 b1 b2 b3 b4 b5 b6
 refine CA.mono ?_
 rintro e w3 ⟨hl2,hk2,ns2,F,nv,rfl,rn,hns,hM,hN,hF,hB⟩
 obtain⟨na,ncap,rfl⟩:=rn.slice
 have FIN:Hid (lkP D lb fns w (.ky tag.data.toList (atP ats) hs0 (keyP bs) ns) c' z' (.returned (.tuple #[.iface 219 (.pointer (some ⟨w2.heap.size,0,none⟩)),.nilIface])) (w3.setCell ⟨w2.heap.size,6,none⟩ (.slice na ns2.length ncap))):=ky_done (LT.of_below bX) hlb hbs2 E0.out hl2 hk2 rn hns hM hN hF hB
 have f6:=FR.out w3 hl2 6
 have c6:=CELL6.out w3 hl2
 clear rn hns hM hN hF hB hl2 hk2 E0 FR CELL6 CA
 go_wp2_with fail
 go_ret2
 exact FIN.out
theorem tg_done {D:Nat→Prop}{lb:Nat}{fns:List Fn}{w X0 X1:World}{B:Nat}{fb:ByteArray}{k:Ln}{c z:Nat}{m:An}{F:List Nat}
  (hL0:LT lb w X0) (hlb:lb<w.heap.size) (hB:w.heap.size≤B) (hq:X0.heap[B]?=some (.cells #[.string fb,.nilIface] 228)) (hL:LT lb X0 X1) (hK:LK X1 lb fns c z) (hns:AnD X1 D m) (hM:Made k m F) (hN:F.Nodup) (hF:∀b∈F,X0.heap.size≤b∧b<X1.heap.size) (hb:∀b∈blocksA m,b∈F∨b<lb) :
  lkP D lb fns w (.tg fb.data.toList k) c z (.returned (.tuple #[.iface 226 (.pointer (some ⟨B,0,none⟩)),.nilIface])) (X1.setCell ⟨B,1,none⟩ m.val):=by
 have hlt:=block_lt hq
 have q1:X1.heap[B]?=some (.cells #[.string fb,.nilIface] 228):=by
  rw[hL.touch.block B hlt (by show ¬ B=lb;omega)]
  exact hq
 obtain⟨p1,p2,rk,p3,p4,p5⟩:=put_done (j:=1) (u:=m.val) hL0 hlb hB hlt hL hK q1 (by decide) hN hF
 refine⟨p1,p2,.tg B fb.data.toList m,B::F,rfl,?_,?_,p3,p4,?_⟩
 ·rw[AnD]
  refine⟨?_,hns.keep rk fun b hq=>p5 b (hb b hq)⟩
  rw[set_block q1,bsA_data]
  rfl
 ·rw[Made];exact⟨B,m,F,rfl,rfl,hM⟩
 ·rw[blocksA]
  exact in_cons hb
theorem lz_done {D:Nat→Prop}{lb:Nat}{fns:List Fn}{w X0 X1:World}{B:Nat}{fb:ByteArray}{args:List PV}{sl:Value}{cs:List Value}{k:Ln}{c z:Nat}{m:An}{F:List Nat}
  (hL0:LT lb w X0) (hlb:lb<w.heap.size) (hB:w.heap.size≤B) (hq:X0.heap[B]?=some (.cells #[.string fb,sl,.nilIface] 231)) (hs:SegAt X0 D 74 1 sl args.length cs) (hv:VLs X0 D args cs) (hL:LT lb X0 X1) (hK:LK X1 lb fns c z) (hns:AnD X1 D m) (hM:Made k m F) (hN:F.Nodup) (hF:∀b∈F,X0.heap.size≤b∧b<X1.heap.size) (hb:∀b∈blocksA m,b∈F∨b<lb) :
  lkP D lb fns w (.lz fb.data.toList args k) c z (.returned (.tuple #[.iface 229 (.pointer (some ⟨B,0,none⟩)),.nilIface])) (X1.setCell ⟨B,2,none⟩ m.val):=by
 have hlt:=block_lt hq
 have q1:X1.heap[B]?=some (.cells #[.string fb,sl,.nilIface] 231):=by
  rw[hL.touch.block B hlt (by show ¬ B=lb;omega)]
  exact hq
 obtain⟨p1,p2,rk,p3,p4,p5⟩:=put_done (j:=2) (u:=m.val) hL0 hlb hB hlt hL hK q1 (by decide) hN hF
 have rk1:=hL.rows.trans rk
 refine⟨p1,p2,.lz B fb.data.toList args m,B::F,rfl,?_,?_,p3,p4,?_⟩
 ·rw[AnD]
  refine⟨⟨sl,cs,?_,hs.tyKeep rk1.kv,hv.tyKeep rk1.kv⟩,hns.keep rk fun b hq=>p5 b (hb b hq)⟩
  rw[set_block q1,bsA_data]
  rfl
 ·rw[Made];exact⟨B,m,F,rfl,rfl,hM⟩
 ·rw[blocksA]
  exact in_cons hb
theorem lookT_some {fns:List Fn}{S:LkS}{c z:Nat}{o:Option An}{l:List PV}{k:Ln}{c' z':Nat}(h:lookT fns S c z o l=some (k,c',z')):∃f v n,headV l=some (f,[v])∧(findF fns f 1).isSome=true∧S c z v (oppA .tg o 0)=some (n,c',z')∧k=.tg f n:=by
 unfold lookT at h
 split at h
 ·rename_i f v e
  split at h
  ·rename_i hs
   split at h
   ·cases h
   ·rename_i n c1 z1 e2
    simp only[Option.some.injEq,Prod.mk.injEq] at h
    obtain⟨rfl,rfl,rfl⟩:=h
    exact⟨f,v,n,e,hs,e2,rfl⟩
  ·cases h
 ·cases h
theorem headV_mem {l r:List PV}{b:List UInt8}(h:headV l=some (b,r)):∀v∈r,v∈l:=by
 unfold headV at h
 split at h
 ·cases h
  intro v hv
  exact List.mem_cons_of_mem _ hv
 ·cases h
theorem headed_some {D:Nat→Prop}{l r:List PV}{f:List UInt8}(h:headV l=some (f,r))(ad:Option Addr)(cap:Nat)(cs:List Value)(w:World)(hseg:SegAt w D 74 1 (.slice ad l.length cap) l.length cs)(hvs:VLs w D l cs):
  Calls prog 161 #[.slice ad l.length cap] w fun e w'=>∃(s:ByteArray) (ad2:Option Addr) (cap2:Nat) (cs2:List Value),e=.returned (.tuple #[.string s,.slice ad2 r.length cap2,.nilIface])∧s.data.toList=f∧Below w.heap.size w w'∧SegAt w' D 74 1 (.slice ad2 r.length cap2) r.length cs2∧VLs w' D r cs2:=by
 refine (headed_any D l ad cap cs w hseg hvs).mono fun e w' hp=>?_
 obtain⟨hb,⟨s,r2,ad2,cap2,cs2,ho,he,h1,h2⟩ | ⟨ho,_⟩⟩:=hp
 ·rw[h] at ho
  simp only[Option.some.injEq,Prod.mk.injEq] at ho
  obtain⟨rfl,rfl⟩:=ho
  exact⟨s,ad2,cap2,cs2,he,rfl,hb,h1,h2⟩
 ·rw[h] at ho;cases ho
theorem pfind_some {lb:Nat}{fns:List Fn}{sl:Value}{w:World}(h:ProgAt w (·<lb) sl fns)(wd:ByteArray)(k:Nat)(hk:k≤9223372036854775807)(hs:(findF fns wd.data.toList k).isSome=true):
  Calls prog 26 #[.agg #[sl],.string wd,.int .i64 ((k:Nat):Int)] w fun e w'=>(∃nb a qa qn qc tb yb,e=.returned (.tuple #[.agg #[.string nb,.int .i64 a,.slice qa qn qc,.iface tb yb],.bool true]))∧Below w.heap.size w w':=by
 refine (mfind_any h wd k hk).mono fun e w' hp=>?_
 obtain⟨hb,⟨f,nb,a,ad,cap,bs,tb,yb,ho,_,he,_⟩ | ⟨ho,_⟩⟩:=hp
 ·exact⟨⟨_,_,_,_,_,_,_,he⟩,hb⟩
 ·rw[ho] at hs;cases hs
theorem tagged_of {fns:List Fn}{lb f:Nat}(IH:LDo fns lb f)(D:Nat→Prop)(o:Option An)(l:List PV)(ad:Option Addr)(cap:Nat)(cs:List Value)(c z:Nat)(k:Ln)(c' z':Nat)(w:World)
  (he:lookT fns (lookA fns f) c z o l=some (k,c',z')) (hz:z≤c) (hK:LK w lb fns c z) (hD:∀g,w.heap.size≤g→D g) (hseg:SegAt w D 74 1 (.slice ad l.length cap) l.length cs) (hvs:VLs w D l cs) (hf:∀v∈l,Fine v) (hO:OD w D o) (hOk:OldOk lb o) :
  Calls prog 164 #[.pointer (some ⟨lb,0,none⟩),.slice ad l.length cap,valN o] w (lkP D lb fns w k c' z'):=by
 obtain⟨t,v,n,e1,e3,e2,rfl⟩:=lookT_some he
 have hfv:=hf v (headV_mem e1 v (by simp))
 have hlb:=hK.lt
 have CH:=headed_some e1 ad cap cs w hseg hvs
 obtain⟨pa,pn,pc,c0,c1,c2,cf,hprog⟩:=hK.facts
 have CF:Hid (∀(X:World) (s:ByteArray),s.data.toList=t→Below w.heap.size w X→Calls prog 26 #[.agg #[.slice pa pn pc],.string s,.int .i64 1] X fun e w'=>(∃nb a qa qn qc tb yb,e=.returned (.tuple #[.agg #[.string nb,.int .i64 a,.slice qa qn qc,.iface tb yb],.bool true]))∧Below X.heap.size X w'):=fun X s hs hX=>by
  subst hs
  exact pfind_some (hprog.below hX) s 1 (by decide) e3
 have OPP:Hid (∀(X:World) (B:Nat),Below w.heap.size w X→Calls prog 126 #[.iface 226 (.pointer (some ⟨B,0,none⟩)),valN o,.int .i64 0] X fun e w'=>e=.returned (valN (oppA .tg o 0))∧Below X.heap.size X w'):=fun X B hX =>
  opp_any .tg _ o 0 X ⟨B,rfl⟩ ((hO.below hX).weaken fun _ _=>trivial) (fun t keys e=>by cases e) (fun _=>rfl) (by omega) hOk.bo
 have LOOK:Hid (∀(X:World) (x:Value),Below w.heap.size w X→VL X D v x→Calls prog 87 #[.pointer (some ⟨lb,0,none⟩),x,valN (oppA .tg o 0)] X (lkP D lb fns X n c' z')):=fun X x hX hx =>
  IH D c z v _ n c' z' x X e2 hz (hK.below hX) (fun g hg=>hD g (by have:=hX.size;omega)) hx hfv (opp_od (hO.below hX) .tg 0) (hOk.opp .tg 0)
 clear IH hD hO hOk hfv hK e2 he hseg hvs hf e1 e3 hprog
 go_enter func164,ntmps164
 go_wp2_with (go_at_call 161;refine CH.mono ?_;rintro e w1 ⟨s,ad2,cap2,cs2,rfl,hs,hb1,sg,vl⟩;clear CH;have CF1:=CF.out w1 s hs hb1;have p0:=Below.cellv hb1 c0)
 refine CF1.mono ?_
 rintro e w2 ⟨⟨nb,a,qa,qn,qc,tb,yb,rfl⟩,hb2⟩
 clear CF1 CF
 have bX2:Below w.heap.size w w2:=hb1.trans (hb2.mono hb1.size)
 have sg2:=sg.below hb2
 have vl2:=vl.below hb2
 clear sg vl hb1 hb2 p0
 obtain⟨y,hy,hvy⟩:=vl2.at 0 (by simp)
 obtain⟨g,q,cp,hcap,_,hc1,hc2,hcell⟩:=sg2.cell (by simp)
 cases hcap
 have c4:=hcell 0 (by simp)
 rw[hy] at c4
 unfold maxLen at hc2
 simp only[Nat.add_zero,List.getElem_cons_zero] at c4 hvy
 obtain⟨tx,xx,rfl⟩:=hvy.iface
 clear hcell hy sg2 vl2
 have c4':w2.cell? ⟨g,q,none⟩=some (.iface tx xx):=c4
 clear c4
 go_wp2_with fail
 have bA:Below w2.heap.size w2 ((w2.alloc (.cells #[.string nb,.int .i64 a,.slice qa qn qc,.iface tb yb] 66)).alloc (.cells #[.string s,.nilIface] 228)):=((Below.refl _ _).alloc (Nat.le_refl _) _).alloc (by simp) _
 have q0:((w2.alloc (.cells #[.string nb,.int .i64 a,.slice qa qn qc,.iface tb yb] 66)).alloc (.cells #[.string s,.nilIface] 228)).heap[w2.heap.size+1]?=some (.cells #[.string s,.nilIface] 228):=by
  have:=heap_alloc_new (w2.alloc (.cells #[.string nb,.int .i64 a,.slice qa qn qc,.iface tb yb] 66)) (.cells #[.string s,.nilIface] 228)
  simpa using this
 generalize ((w2.alloc (.cells #[.string nb,.int .i64 a,.slice qa qn qc,.iface tb yb] 66)).alloc (.cells #[.string s,.nilIface] 228))=X0 at *
 have hbs:=bX2.size
 have bX:Below w.heap.size w X0:=bX2.trans (bA.mono hbs)
 have d4:=Below.cellv bA c4'
 have hvX:=hvy.below bA
 have CO:=fun X (hX:Below X0.heap.size X0 X)=>OPP.out X (w2.heap.size+1) (bX.trans (hX.mono bX.size))
 have CO0:=CO X0 (Below.refl _ _)
 have CO1:=(CO X0.drew ((Below.refl _ _).drew)).mono (fun e w' (h:_∧_)=>(⟨h.1,((Below.refl X0.heap.size X0).drew).trans h.2⟩:e=_∧Below X0.heap.size X0 w'))
 have CL:Hid (∀X,Below X0.heap.size X0 X→Calls prog 87 #[.pointer (some ⟨lb,0,none⟩),.iface tx xx,valN (oppA .tg o 0)] X (lkP D lb fns X n c' z')):=fun X hX=>LOOK.out X _ (bX.trans (hX.mono bX.size)) (hvX.below hX)
 have FIN:Hid (∀(X X1:World) (m:An) (F:List Nat),Below X0.heap.size X0 X→LT lb X X1→LK X1 lb fns c' z'→AnD X1 D m→Made n m F→F.Nodup→(∀b∈F,X.heap.size≤b∧b<X1.heap.size)→(∀b∈blocksA m,b∈F∨b<lb)→(X1.frozen? ⟨w2.heap.size+1,1,none⟩=false∧X1.cell? ⟨w2.heap.size+1,1,none⟩=some .nilIface)∧lkP D lb fns w (.tg t n) c' z' (.returned (.tuple #[.iface 226 (.pointer (some ⟨w2.heap.size+1,0,none⟩)),.nilIface])) (X1.setCell ⟨w2.heap.size+1,1,none⟩ m.val)):=fun X X1 m F hX hL hK hm hM hN hF hB=>by
  have hq:X.heap[w2.heap.size+1]?=some (.cells #[.string s,.nilIface] 228):=(hX.block _ (block_lt q0)).trans q0
  have hlt:=block_lt hq
  have q1:=(hL.touch.block (w2.heap.size+1) hlt (by show ¬ w2.heap.size+1=lb;omega)).trans hq
  subst hs
  refine⟨⟨by unfold World.frozen?;rw[q1];rfl,by unfold World.cell?;rw[q1];rfl⟩,tg_done (LT.of_below (bX.trans (hX.mono bX.size))) hlb (by omega) hq hL hK hm hM hN hF hB⟩
 have CELL:Hid (∀X,Below X0.heap.size X0 X→X.cell? ⟨g,q,none⟩=some (.iface tx xx)):=fun X hX=>Below.cellv hX d4
 clear LOOK OPP CO q0 bA bX2 hvy hvX c4' hs
 generalize valN (oppA .tg o 0)=vo at *
 generalize valN o=vo2 at *
 go_region_with (first
  |(go_at_call 126;(first | refine CO0.mono ?_ | refine CO1.mono ?_);rintro e w3 ⟨rfl,hb3⟩;have e3:=CELL.out w3 hb3;have CL1:=CL.out w3 hb3)
  |(go_at_call 87;refine CL1.mono ?_;rintro e w4 ⟨hl2,hk2,m,F2,rfl,hm2,hMd,hN2,hF2,hB2⟩;obtain⟨tn,bn,hn⟩:=m.val_iface;obtain⟨⟨f1,d1⟩,FI⟩:=FIN.out _ _ m F2 hb3 hl2 hk2 hm2 hMd hN2 hF2 hB2;have FI2:Hid _:=FI;clear FI;rw[hn] at FI2 ⊢;clear hm2 hMd hN2 hF2 hB2 hk2 hl2))
 all_goals (go_wp2_with fail)
 all_goals go_ret2
 all_goals exact FI2.out
theorem lookN_some {fns:List Fn}{S:LkS}{c z:Nat}{o:Option An}{f:List UInt8}{args:List PV}{k:Ln}{c' z':Nat}(h:lookN fns S c z o f args=some (k,c',z')):∃v n,reckP fns f args=some v∧S c (z+1) v (oppA .lz o 0)=some (n,c',z')∧k=.lz f args n:=by
 unfold lookN at h
 split at h
 ·cases h
 ·rename_i v e
  split at h
  ·cases h
  ·rename_i n c1 z1 e2
   simp only[Option.some.injEq,Prod.mk.injEq] at h
   obtain⟨rfl,rfl,rfl⟩:=h
   exact⟨v,n,e,e2,rfl⟩
theorem anew_of {fns:List Fn}(hP:ProgOk fns)(hU:UniqF fns){lb f:Nat}(IH:LDo fns lb f)(D:Nat→Prop)(o:Option An)(fb:ByteArray)(args:List PV)(sl:Value)(cs:List Value)(c z:Nat)(k:Ln)(c' z':Nat)(w X0:World)(B:Nat)
  (he:lookN fns (lookA fns f) c z o fb.data.toList args=some (k,c',z')) (hz:z+1≤c) (hc:c≤100) (hlb:lb<w.heap.size) (hL0:LT lb w X0) (hB:w.heap.size≤B) (hq:X0.heap[B]?=some (.cells #[.string fb,sl,.nilIface] 231)) (hK:LK X0 lb fns c z) (hD:∀g,w.heap.size≤g→D g) (hseg:SegAt X0 D 74 1 sl args.length cs) (hvs:VLs X0 D args cs) (hf:∀v∈args,Fine v) (hal:args.length≤600) (hO:OD X0 D o) (hOk:OldOk lb o) :
  Calls prog 195 #[.pointer (some ⟨lb,0,none⟩),.pointer (some ⟨B,0,none⟩),valN o] X0 (lkP D lb fns w k c' z'):=by
 obtain⟨v,n,e1,e2,rfl⟩:=lookN_some he
 have hfv:=reckP_fine hP hf e1
 have hne:B≠lb:=by omega
 obtain⟨K1,T1⟩:=hK.set 2 (Or.inr rfl) (z+1)
 obtain⟨pa,pn,pc,c0,c1,c2,cf,_⟩:=hK.facts
 have f2:=cf 2
 simp only[show ¬ (2=1) by decide,if_false] at K1
 have hq1:(X0.setCell ⟨lb,2,none⟩ (.int .i64 ((z+1:Nat):Int))).heap[B]?=some (.cells #[.string fb,sl,.nilIface] 231):=(Below.heap_setCell X0 ⟨lb,2,none⟩ _ B hne).trans hq
 have hs1:=hseg.tyKeep T1.rows.kv
 have hv1:=hvs.tyKeep T1.rows.kv
 have hO1:OD (X0.setCell ⟨lb,2,none⟩ (.int .i64 ((z+1:Nat):Int))) D o:=hO.lt' T1 hOk
 have L1:LT lb w (X0.setCell ⟨lb,2,none⟩ (.int .i64 ((z+1:Nat):Int))):=hL0.trans T1
 have ez:((z+1:Nat):Int)=(z:Int)+1:=by omega
 obtain⟨X1,hX1⟩:∃X1,X1=X0.setCell ⟨lb,2,none⟩ (.int .i64 ((z+1:Nat):Int)):=⟨_,rfl⟩
 rw[←hX1] at K1 T1 hq1 hs1 hv1 hO1 L1
 obtain⟨pa',pn',pc',d0,d1,d2,df,hprog⟩:=K1.facts
 have hpe:pa'=pa∧pn'=pn∧pc'=pc:=by
  obtain⟨a1,a2,a3,hb1,_⟩:=hK.blk
  have:X1.cell? ⟨lb,0,none⟩=X0.cell? ⟨lb,0,none⟩:=by
   rw[hX1]
   unfold World.cell?
   rw[set_block hb1,hb1]
   rfl
  rw[this,c0] at d0
  cases d0
  exact⟨rfl,rfl,rfl⟩
 obtain⟨rfl,rfl,rfl⟩:=hpe
 have CN:Hid (∀X,Below X1.heap.size X1 X→Calls prog 28 #[.agg #[.slice pa' pn' pc'],.string fb,sl] X fun e w'=>∃tx xx,e=.returned (.tuple #[.iface tx xx,.nilIface])∧VL w' D v (.iface tx xx)∧Below X1.heap.size X1 w'):=fun X hX=>by
  have hh:=hX.size
  refine (named_D hP hU X (·<lb) D fb args cs sl pa' pn' pc' (hprog.below hX) (K1.flt.below hX) (by have h1:=K1.hm;have h2:=K1.lt;omega) (hs1.below hX) (hv1.below hX) hf (by omega) (fun g hg=>hD g (by have:=L1.size;omega))).mono fun e w' h=>?_
  rw[e1] at h
  obtain⟨hb,⟨v',x,ho,he,hv⟩ | ⟨ho,_⟩⟩:=h
  ·cases ho
   obtain⟨tx,xx,rfl⟩:=hv.iface
   exact⟨tx,xx,he,hv,hX.trans (hb.mono hh)⟩
  ·cases ho
 have b0:X1.cell? ⟨B,0,none⟩=some (.string fb):=by unfold World.cell?;rw[hq1];rfl
 have b1:X1.cell? ⟨B,1,none⟩=some sl:=by unfold World.cell?;rw[hq1];rfl
 have OPP:Hid (∀(X:World),Below X1.heap.size X1 X→Calls prog 126 #[.iface 229 (.pointer (some ⟨B,0,none⟩)),valN o,.int .i64 0] X fun e w'=>e=.returned (valN (oppA .lz o 0))∧Below X.heap.size X w'):=fun X hX =>
  opp_any .lz _ o 0 X ⟨B,rfl⟩ ((hO1.below hX).weaken fun _ _=>trivial) (fun t keys e=>by cases e) (fun _=>rfl) (by omega) hOk.bo
 have hs01:=L1.size
 have LOOK:Hid (∀(X:World) (x:Value),Below X1.heap.size X1 X→VL X D v x→Calls prog 87 #[.pointer (some ⟨lb,0,none⟩),x,valN (oppA .lz o 0)] X (lkP D lb fns X n c' z')):=fun X x hX hx =>
  IH D c (z+1) v _ n c' z' x X e2 hz (K1.below hX) (fun g hg=>hD g (by have:=hX.size;omega)) hx hfv (opp_od (hO1.below hX) .lz 0) (hOk.opp .lz 0)
 have FIN:Hid (∀(X Y:World) (m:An) (F:List Nat),Below X1.heap.size X1 X→LT lb X Y→LK Y lb fns c' z'→AnD Y D m→Made n m F→F.Nodup→(∀b∈F,X.heap.size≤b∧b<Y.heap.size)→(∀b∈blocksA m,b∈F∨b<lb)→(Y.frozen? ⟨B,2,none⟩=false∧Y.cell? ⟨B,2,none⟩=some .nilIface)∧lkP D lb fns w (.lz fb.data.toList args n) c' z' (.returned (.tuple #[.iface 229 (.pointer (some ⟨B,0,none⟩)),.nilIface])) (Y.setCell ⟨B,2,none⟩ m.val)):=fun X Y m F hX hL hK hm hM hN hF hBl=>by
  have hqX:X.heap[B]?=some (.cells #[.string fb,sl,.nilIface] 231):=(hX.block _ (block_lt hq1)).trans hq1
  have hlt:=block_lt hqX
  have qY:=(hL.touch.block B hlt hne).trans hqX
  refine⟨⟨by unfold World.frozen?;rw[qY];rfl,by unfold World.cell?;rw[qY];rfl⟩,lz_done (L1.below hX) hlb hB hqX (hs1.below hX) (hv1.below hX) hL hK hm hM hN hF hBl⟩
 obtain⟨sad,scap,rfl⟩:=hseg.slice
 have zi:(z:Int)≤99:=by omega
 clear IH hD hO hO1 hOk hfv hK K1 e2 he hs1 hv1 hseg hvs hf e1 hprog hL0 L1 T1 hq hq1 cf df
 go_enter func195,ntmps195
 rw[ez] at hX1
 have CN0:=CN.out X1 (Below.refl _ _)
 have CN1:=CN.out X1.drew (Below.refl _ _).drew
 go_upto_region 2 with fail
 rw[←hX1]
 clear hX1 c0 c1 c2 f2
 go_cut [8,9] (fun gv ev wx=>∃tx xx,gv=.iface tx xx∧ev=.nilIface∧VL wx D v (.iface tx xx)∧Below X1.heap.size X1 wx)
 case first =>
  go_region_with (go_at_call 28;(first | refine CN0.mono ?_ | refine CN1.mono ?_);rintro e w2 ⟨tx,xx,rfl,hvx,hb2⟩)
  all_goals (go_wp2_with fail)
  all_goals go_meet
  all_goals exact⟨tx,xx,rfl,rfl,hvx,hb2⟩
 case rest =>
  obtain⟨tx,xx,rfl,rfl,hvx,hb2⟩:=hcut
  clear CN CN0 CN1
  have CO:=OPP.out wc hb2
  have CL:Hid (∀X,Below wc.heap.size wc X→Calls prog 87 #[.pointer (some ⟨lb,0,none⟩),.iface tx xx,valN (oppA .lz o 0)] X (lkP D lb fns X n c' z')):=fun X hX=>LOOK.out X _ (hb2.trans (hX.mono hb2.size)) (hvx.below hX)
  have FI:Hid (∀(X Y:World) (m:An) (F:List Nat),Below wc.heap.size wc X→_):=fun X Y m F hX=>FIN.out X Y m F (hb2.trans (hX.mono hb2.size))
  clear LOOK OPP FIN hvx
  generalize valN (oppA .lz o 0)=vo at *
  generalize valN o=vo2 at *
  go_wp2_with (first
   |(go_at_call 126;refine CO.mono ?_;rintro e w3 ⟨rfl,hb3⟩;have CL1:=CL.out w3 hb3)
   |(go_at_call 87;refine CL1.mono ?_;rintro e w4 ⟨hl2,hk2,m,F2,rfl,hm2,hMd,hN2,hF2,hB2⟩;obtain⟨tn,bn,hn⟩:=m.val_iface;obtain⟨⟨f1,g1⟩,FI1⟩:=FI.out _ _ m F2 hb3 hl2 hk2 hm2 hMd hN2 hF2 hB2;have FI2:Hid _:=FI1;clear FI1;rw[hn] at FI2 ⊢;clear hm2 hMd hN2 hF2 hB2 hk2 hl2))
  go_ret2
  exact FI2.out
end Go.Proofs.YtifhgjpglicjbaaGreatDoor
namespace Go.Proofs.YtifhgjpglicjbaaGreatDoor
open Go.Proofs.Tryz
open Go.RowKit Go.Lib
attribute [local go_sem ↓] Go.wp_at_zero Go.wp_at_succ
attribute [local go_sem] nt_Node_Text_Text nt_Node_Text_Element nt_Node_Text_Keyed nt_Node_Text_Tagged nt_Node_Text_Lazy nt_Node_Element_Text nt_Node_Element_Element nt_Node_Element_Keyed nt_Node_Element_Tagged nt_Node_Element_Lazy nt_Node_Keyed_Text nt_Node_Keyed_Element nt_Node_Keyed_Keyed nt_Node_Keyed_Tagged nt_Node_Keyed_Lazy nt_Node_Tagged_Text nt_Node_Tagged_Element nt_Node_Tagged_Keyed nt_Node_Tagged_Tagged nt_Node_Tagged_Lazy nt_Node_Lazy_Text nt_Node_Lazy_Element nt_Node_Lazy_Keyed nt_Node_Lazy_Tagged nt_Node_Lazy_Lazy nt_Node_nil_Text nt_Node_nil_Element nt_Node_nil_Keyed nt_Node_nil_Tagged nt_Node_nil_Lazy nt_Shown_Text_Text nt_Shown_Text_Element nt_Shown_Text_Keyed nt_Shown_Element_Text nt_Shown_Element_Element nt_Shown_Element_Keyed nt_Shown_Keyed_Text nt_Shown_Keyed_Element nt_Shown_Keyed_Keyed nt_Shown_nil_Text nt_Shown_nil_Element nt_Shown_nil_Keyed nt_Shown_of_Text nt_Shown_of_Element nt_Shown_of_Keyed nt_Shown_of_nil
def lzO:Option An→Option (Nat×List UInt8×List PV)
 | some (.lz b g as0 _)=>some (b,g,as0)
 | _=>none
theorem lookZ_some {fns:List Fn}{S:LkS}{c z:Nat}{o:Option An}{l:List PV}{k:Ln}{c' z':Nat}(h:lookZ fns S c z o l=some (k,c',z')):∃f args,headV l=some (f,args)∧(findF fns f args.length).isSome=true ∧
  ((∃n,againA f args o=some n∧c+(sizeA n-1)≤100∧k=.old n∧c'=c+(sizeA n-1)∧z'=z)∨(againA f args o=none∧lookN fns S c z o f args=some (k,c',z'))):=by
 unfold lookZ at h
 split at h
 ·cases h
 ·rename_i f args e
  split at h
  ·rename_i hs
   refine⟨f,args,e,hs,?_⟩
   split at h
   ·rename_i n e2
    split at h
    ·cases h
    ·rename_i hc
     simp only[Option.some.injEq,Prod.mk.injEq] at h
     exact Or.inl ⟨n,e2,by omega,h.1.symm,h.2.1.symm,h.2.2.symm⟩
   ·rename_i e2
    exact Or.inr ⟨e2,h⟩
  ·cases h
theorem lazy_of {fns:List Fn}(hP:ProgOk fns)(hU:UniqF fns){lb f:Nat}(IH:LDo fns lb f)(D:Nat→Prop)(o:Option An)(l:List PV)(ad:Option Addr)(cap:Nat)(cs:List Value)(c z:Nat)(k:Ln)(c' z':Nat)(w:World)
  (he:lookZ fns (lookA fns f) c z o l=some (k,c',z')) (hz:z+1≤c) (hc:c≤100) (hK:LK w lb fns c z) (hD:∀g,w.heap.size≤g→D g) (hseg:SegAt w D 74 1 (.slice ad l.length cap) l.length cs) (hvs:VLs w D l cs) (hf:∀v∈l,Fine v) (hll:l.length≤600) (hO:OD w D o) (hOk:OldOk lb o) :
  Calls prog 165 #[.pointer (some ⟨lb,0,none⟩),.slice ad l.length cap,valN o] w (lkP D lb fns w k c' z'):=by
 obtain⟨t,args,e1,e3,hcase⟩:=lookZ_some he
 have hfa:∀v∈args,Fine v:=fun v hv=>hf v (headV_mem e1 v hv)
 have hal:args.length≤600:=by
  unfold headV at e1
  split at e1
  ·cases e1;simp at hll;omega
  ·cases e1
 have hlb:=hK.lt
 have CH:=headed_some e1 ad cap cs w hseg hvs
 obtain⟨pa,pn,pc,c0,c1,c2,cf,hprog⟩:=hK.facts
 have CF:Hid (∀(X:World) (s:ByteArray),s.data.toList=t→Below w.heap.size w X→Calls prog 26 #[.agg #[.slice pa pn pc],.string s,.int .i64 ((args.length:Nat):Int)] X fun e w'=>(∃nb a qa qn qc tb yb,e=.returned (.tuple #[.agg #[.string nb,.int .i64 a,.slice qa qn qc,.iface tb yb],.bool true]))∧Below X.heap.size X w'):=fun X s hs hX=>by
  subst hs
  exact pfind_some (hprog.below hX) s args.length (by omega) e3
 have NEW:Hid (againA t args o=none→∀(X0:World) (s:ByteArray) (sl:Value) (cs2:List Value) (B:Nat),s.data.toList=t→Below w.heap.size w X0→w.heap.size≤B→X0.heap[B]?=some (.cells #[.string s,sl,.nilIface] 231)→SegAt X0 D 74 1 sl args.length cs2→VLs X0 D args cs2 →
   Calls prog 195 #[.pointer (some ⟨lb,0,none⟩),.pointer (some ⟨B,0,none⟩),valN o] X0 (lkP D lb fns w k c' z')):=fun hag X0 s sl cs2 B hs hX hB hq h1 h2=>by
  rcases hcase with ⟨n,e2,_⟩ | ⟨_,e2⟩
  ·rw[hag] at e2;cases e2
  ·subst hs
   exact anew_of hP hU IH D o s args sl cs2 c z k c' z' w X0 B e2 hz hc hlb (LT.of_below hX) hB hq (hK.below hX) hD h1 h2 hfa hal (hO.below hX) hOk
 have OLD:Hid (∀b g as0 n,o=some (.lz b g as0 n)→againA t args o=some (.lz b g as0 n)→∀X,Below w.heap.size w X→Calls prog 194 #[.pointer (some ⟨lb,0,none⟩),.pointer (some ⟨b,0,none⟩)] X (lkP D lb fns w k c' z')):=fun b g as0 n ho hag X hX=>by
  rcases hcase with ⟨m,e2,e4,rfl,rfl,rfl⟩ | ⟨e2,_⟩
  ·rw[hag] at e2
   cases e2
   subst ho
   have hO':AnD X D (.lz b g as0 n):=AnD.below hO hX
   refine (again_ok X (hK.below hX) hO' hOk e4).mono fun e w' h=>?_
   obtain⟨h1,h2,m,F,h3,h4,h5,h6,h7,h8⟩:=h
   exact⟨(LT.of_below hX).trans h1,h2,m,F,h3,h4,h5,h6,fun q hq=>by have:=h7 q hq;have:=hX.size;omega,h8⟩
  ·rw[hag] at e2;cases e2
 have ISOF:Hid (∀b g as0 n,o=some (.lz b g as0 n)→∀(X:World) (s:ByteArray) (sl:Value) (cs2:List Value),s.data.toList=t→Below w.heap.size w X→SegAt X D 74 1 sl args.length cs2→VLs X D args cs2 →
   Calls prog 193 #[.pointer (some ⟨b,0,none⟩),.string s,sl] X fun e w'=>e=.returned (.bool (againA t args o).isSome)∧Below X.heap.size X w'):=fun b g as0 n ho X s sl cs2 hs hX h1 h2=>by
  subst ho hs
  have hw:=(hOk _ rfl).1
  rw[WfA] at hw
  have hO':AnD X D (.lz b g as0 n):=AnD.below hO hX
  refine (isOf_any (hO'.weaken fun _ _=>trivial) hw.1.2 (by have:=hw.1.1;omega) s args sl cs2 (h1.weaken fun _ _=>trivial) (h2.weaken fun _ _=>trivial)).mono fun e w' h=>⟨?_,h.2⟩
  rw[h.1]
  by_cases hg:g=s.data.toList<;>cases hsv:sameVs as0 args<;>simp[againA,hg,hsv]
 have LZ:Hid (∀n,againA t args o=some n→o=some n∧∃b g as0 m,n=.lz b g as0 m):=fun n h=>by
  unfold againA at h
  split at h
  ·split at h
   ·cases h;exact⟨rfl,_,_,_,_,rfl⟩
   ·cases h
  ·cases h
 have NLZ:Hid ((∀b g as0 n,o≠some (.lz b g as0 n))→againA t args o=none):=fun h=>by
  cases ha:againA t args o with
  | none=>rfl
  | some n =>
   obtain⟨h1,b,g,as0,m,h2⟩:=LZ.out n ha
   exact absurd (h1.trans (by rw[h2])) (h b g as0 m)
 clear IH hD hO hOk hfa hK he hseg hvs hf e1 e3 hprog hcase hP hU
 go_enter func165,ntmps165
 go_wp2_with (go_at_call 161;refine CH.mono ?_;rintro e w1 ⟨s,ad2,cap2,cs2,rfl,hs,hb1,sg,vl⟩;clear CH;have CF1:=CF.out w1 s hs hb1;have p0:=Below.cellv hb1 c0)
 refine CF1.mono ?_
 rintro e w2 ⟨⟨nb,a,qa,qn,qc,tb,yb,rfl⟩,hb2⟩
 clear CF1 CF
 have bX2:Below w.heap.size w w2:=hb1.trans (hb2.mono hb1.size)
 have sg2:=sg.below hb2
 have vl2:=vl.below hb2
 clear sg vl hb1 hb2 p0
 have bA:Below w2.heap.size w2 (w2.alloc (.cells #[.string nb,.int .i64 a,.slice qa qn qc,.iface tb yb] 66)):=(Below.refl _ _).alloc (Nat.le_refl _) _
 have bXA:Below w.heap.size w (w2.alloc (.cells #[.string nb,.int .i64 a,.slice qa qn qc,.iface tb yb] 66)):=bX2.trans (bA.mono bX2.size)
 have sgA:=sg2.below bA
 have vlA:=vl2.below bA
 have NEWX:Hid (againA t args o=none→∀(X:World),Below (w2.alloc (.cells #[.string nb,.int .i64 a,.slice qa qn qc,.iface tb yb] 66)).heap.size (w2.alloc (.cells #[.string nb,.int .i64 a,.slice qa qn qc,.iface tb yb] 66)) X→Calls prog 195 #[.pointer (some ⟨lb,0,none⟩),.pointer (some ⟨X.heap.size,0,none⟩),valN o] (X.alloc (.cells #[.string s,.slice ad2 args.length cap2,.nilIface] 231)) (lkP D lb fns w k c' z')):=fun hag X hX=>by
  have hXw:Below w.heap.size w X:=bXA.trans (hX.mono bXA.size)
  have hbb:Below X.heap.size X (X.alloc (.cells #[.string s,.slice ad2 args.length cap2,.nilIface] 231)):=(Below.refl _ _).alloc (Nat.le_refl _) _
  exact NEW.out hag _ s _ cs2 X.heap.size hs (hXw.trans (hbb.mono hXw.size)) hXw.size (heap_alloc_new _ _) ((sgA.below hX).below hbb) ((vlA.below hX).below hbb)
 have IS:Hid (∀b g as0 n,o=some (.lz b g as0 n)→Calls prog 193 #[.pointer (some ⟨b,0,none⟩),.string s,.slice ad2 args.length cap2] (w2.alloc (.cells #[.string nb,.int .i64 a,.slice qa qn qc,.iface tb yb] 66)) fun e w'=>e=.returned (.bool (againA t args o).isSome)∧Below (w2.alloc (.cells #[.string nb,.int .i64 a,.slice qa qn qc,.iface tb yb] 66)).heap.size (w2.alloc (.cells #[.string nb,.int .i64 a,.slice qa qn qc,.iface tb yb] 66)) w'):=fun b g as0 n ho=>ISOF.out b g as0 n ho _ s _ cs2 hs bXA sgA vlA
 have OLDX:Hid (∀b g as0 n,o=some (.lz b g as0 n)→againA t args o=some (.lz b g as0 n)→∀X,Below (w2.alloc (.cells #[.string nb,.int .i64 a,.slice qa qn qc,.iface tb yb] 66)).heap.size (w2.alloc (.cells #[.string nb,.int .i64 a,.slice qa qn qc,.iface tb yb] 66)) X→Calls prog 194 #[.pointer (some ⟨lb,0,none⟩),.pointer (some ⟨b,0,none⟩)] X (lkP D lb fns w k c' z')):=fun b g as0 n h1 h2 X hX=>OLD.out b g as0 n h1 h2 X (bXA.trans (hX.mono bXA.size))
 clear NEW ISOF OLD bA bXA sgA vlA sg2 vl2 bX2 hs
 have hw2:(w2.alloc (.cells #[.string nb,.int .i64 a,.slice qa qn qc,.iface tb yb] 66)).heap.size=w2.heap.size+1:=by simp
 have aii:((args.length:Nat):Int)≤600:=by omega
 rcases o with _ | ⟨b,m,t0⟩ | ⟨b,m,t0,ats,hs,ks⟩ | ⟨b,m,t0,ats,hs,keys,ks⟩ | ⟨b,g,n⟩ | ⟨b,g,as0,n⟩
 case some.lz =>
  have CI:=IS.out b g as0 n rfl
  cases ha:againA t args (some (.lz b g as0 n)) with
  | none =>
   rw[ha] at CI
   have CN:=NEWX.out ha
   simp only[valN,An.val] at CN ⊢
   clear IS OLDX LZ NLZ NEWX
   go_wp2_with (first
    |(go_at_call 193;refine CI.mono ?_;rintro e w3 ⟨rfl,hb3⟩;have CN1:=CN w3 hb3)
    |(go_at_call 195;refine CN1.mono ?_;rintro e w4 ⟨h1,h2,m,F2,rfl,h3⟩;have FI:Hid (lkP D lb fns w k c' z' (.returned (.tuple #[m.val,.nilIface])) w4):=⟨h1,h2,m,F2,rfl,h3⟩;clear h1 h2 h3;obtain⟨tn,bn,hn⟩:=m.val_iface;rw[hn] at FI ⊢))
   go_ret2
   exact FI.out
  | some n2 =>
   rw[ha] at CI
   obtain⟨h1,_⟩:=LZ.out n2 ha
   cases h1
   have CN:=OLDX.out b g as0 n rfl ha
   simp only[valN,An.val] at CN ⊢
   clear IS OLDX LZ NLZ NEWX
   go_wp2_with (first
    |(go_at_call 193;refine CI.mono ?_;rintro e w3 ⟨rfl,hb3⟩;have CN1:=CN w3 hb3)
    |(go_at_call 194;refine CN1.mono ?_;rintro e w4 ⟨h1,h2,m,F2,rfl,h3⟩;have FI:Hid (lkP D lb fns w k c' z' (.returned (.tuple #[m.val,.nilIface])) w4):=⟨h1,h2,m,F2,rfl,h3⟩;clear h1 h2 h3;obtain⟨tn,bn,hn⟩:=m.val_iface;rw[hn] at FI ⊢))
   go_ret2
   exact FI.out
 all_goals
  have ha:=NLZ.out (fun _ _ _ _ h=>by cases h)
  have CN:=NEWX.out ha _ (Below.refl _ _)
  rw[hw2] at CN
  simp only[valN,An.val] at CN ⊢
  clear IS OLDX LZ NLZ NEWX
  go_wp2_with (go_at_call 195;refine CN.mono ?_;rintro e w4 ⟨h1,h2,m,F2,rfl,h3⟩;have FI:Hid (lkP D lb fns w k c' z' (.returned (.tuple #[m.val,.nilIface])) w4):=⟨h1,h2,m,F2,rfl,h3⟩;clear h1 h2 h3;obtain⟨tn,bn,hn⟩:=m.val_iface;rw[hn] at FI ⊢)
  go_ret2
  exact FI.out
end Go.Proofs.YtifhgjpglicjbaaGreatDoor
namespace Go.Proofs.YtifhgjpglicjbaaGreatDoor
open Go.Proofs.Tryz
open Go.RowKit Go.Shelf Go.Sort
attribute [local go_sem ↓] Go.wp_at_zero Go.wp_at_succ
theorem Bld.new (w:World):Bld w.heap.size w.heap.size [] (w.alloc (Obj.cells #[.pointer none,.slice none 0 0] 132)):=by
 refine .inl ⟨Nat.le_refl _,.slice none 0 0,heap_alloc_new _ _,?_,by intro h;cases h⟩
 exact⟨rfl,Or.inl ⟨rfl,rfl⟩⟩
theorem Write_any (D:Nat→Prop)(v:PV)(x:Value)(w:World)(hv:VL w D v x)(hok:okV v)(hw:wtV v≤1000000)(ht:Pow10 w):
  Calls prog 29 #[x] w fun e w'=>e=.returned (.string ⟨(wrV v).toArray⟩)∧Below w.heap.size w w':=by
 have hv2:VL w (·<w.heap.size) v x:=(hv.map fun _ _ _ g=>g.keep (w':=w) fun _ _ _=>rfl).weaken fun g hg=>hg.2
 have cw:=write_all w w.heap.size ht (wtV v) v x _ [] (Nat.le_refl _) hok hv2 (Bld.new w) (below1 w _) (by simp;omega)
 rw[List.nil_append] at cw
 have CS:Hid (∀w2,Bld w.heap.size w.heap.size (wrV v) w2→Below w.heap.size w w2→Calls prog 56 #[.pointer (some ⟨w.heap.size,0,none⟩)] w2 fun e w'=>e=.returned (.string ⟨(wrV v).toArray⟩)∧Below w.heap.size w w'):=fun w2 h1 h2=>by
  have c:Calls prog 56 #[.pointer (some ⟨w.heap.size,0,none⟩)] w2 _:=Any.Builder_String_any_k laysSt laysBx w.heap.size w.heap.size (wrV v) w2 h1 h2.size
  exact c.mono fun e w' ⟨g1,_,g3,_⟩=>⟨g1,h2.trans g3⟩
 clear hv hv2 hok hw ht
 generalize wrV v=R at *
 go_enter func29,ntmps29
 go_wp2_with (first
  |(go_at_call 55;refine cw.mono ?_;rintro e w2 ⟨rfl,hB2,hb2⟩)
  |(go_at_call 56;refine (CS.out _ hB2 hb2).mono ?_;rintro e w3 ⟨rfl,hb3⟩))
 go_ret
 exact⟨rfl,hb3⟩
end Go.Proofs.YtifhgjpglicjbaaGreatDoor
