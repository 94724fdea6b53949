/-
  The program: carryOut's ways: map.
-/
import Derived.Test.YtliapghpeoaonaaGreatDoorReL
set_option maxHeartbeats 4000000
set_option maxRecDepth 100000
namespace Go.Proofs.YtliapghpeoaonaaGreatDoor
open Go.Proofs.Tryz
open Go.RowKit Go.Lib
attribute [local go_sem ↓] Go.wp_at_zero Go.wp_at_succ
attribute [local go_sem] Zdi Zdh Zdj Zdf Zde Zdg Zdl Zdk Zdm
def mapR (C:Nat→PV→Option (PV×Nat)):Option (PV×Nat)→Option (PV×Nat)
 | some (.lst l,k)=>Zcu (evM C k l)
 | _=>none
theorem Z2s {C:Nat→PV→Option (PV×Nat)}{k:Nat}{v:PV}{vs:List PV}(h:C k v=none):evM C k (v::vs)=none:=by simp only[evM,h]
theorem Z2r {C:Nat→PV→Option (PV×Nat)}{k k1:Nat}{v u:PV}{vs:List PV}(us:List PV)(h:C k v=some (u,k1)):Zv3 us (evM C k (v::vs))=Zv3 (us++[u]) (evM C k1 vs):=by
 simp only[evM,h]
 cases evM C k1 vs with
 | none=>rfl
 | some x=>simp[Zv3]
theorem Zmx:∀(us:List PV),(∀u∈us,Zec u)→Zbh us≤600*us.length
 | [],_=>by simp[Zbh]
 | u::us,h=>by
  rw[Zbh,List.length_cons]
  have h1:=(h u (by simp)).2
  have h2:=Zmx us fun x hx=>h x (by simp[hx])
  omega
theorem segBlk {w:World}{D:Nat→Prop}{g:Nat}{x:Value}(h:w.heap[g]?=some (.cells #[x] 81))(hg:D g):Zar w D 81 1 (.slice (some ⟨g,0,none⟩) 1 1) 1 [x] :=
 Zar.of_row ⟨rfl,Or.inr ⟨g,1,#[x],rfl,hg,h,Nat.le_refl _,by decide,rfl,rfl⟩⟩
section
variable {mb k0:Nat} {fns:List Fn} {E:Nat→Env→Ex→Option (PV×Nat)}
set_option maxRecDepth 8000 in
theorem map_of (hP:Ze1 fns)(IH:RDo mb fns E k0)(good:Zg2 E)(w:World)(D:Nat→Prop)(k:Nat)(n:List UInt8)(a:Ex)(sp pl:Int)(nb:ByteArray)(xa:Value)(s:Env)(y:Value)(hk:k≤k0)(hD:¬ D mb)(hD2:∀g,w.heap.size≤g→D g)(hM:Zfw w mb fns k)(hn:nb.data.toList=n)(hfn:Zxf fns n 1)
  (ha:Zc8 w (·<mb) a xa) (hs:SC w D s y) (pa:XPo fns s a) :
  Calls prog 237 #[.pointer (some ⟨mb,0,none⟩),.agg #[.int .i64 sp,.string nb,.int .i64 pl,xa],y] w (Zbl D mb fns (mapR (fun k v=>evC E fns k n [v]) (E k s a)) w):=by
 obtain⟨C,hC⟩:∃C:Nat→PV→Option (PV×Nat),C=fun k v=>evC E fns k n [v]:=⟨_,rfl⟩
 rw[←hC]
 obtain⟨R,hR⟩:∃R,R=mapR C (E k s a):=⟨_,rfl⟩
 rw[←hR]
 have EV0:Hid (E k s a=none→R=none):=fun h=>by rw[hR,h];rfl
 have EV1:Hid (∀v k',E k s a=some (v,k')→R=mapR C (some (v,k'))):=fun v k' h=>by rw[hR,h]
 have hCe:∀k v,C k v=Zy8 E fns k nb.data.toList [v]:=fun k v=>by rw[hC,hn];exact (Zvw (vs:=[v]) hfn).symm
 have hCg:∀k u v k',Zec u→C k u=some (v,k')→Zec v∧k'≤k:=fun k u v k' hu h=>by
  rw[hC] at h
  exact Zka good hP.lit (vs:=[u]) (fun x hx=>by simp at hx;rw[hx];exact hu) h
 obtain⟨o,rfl⟩:=hs.ptr
 obtain⟨t0,y0,rfl⟩:=ha.iface
 have hmb:=hM.lt
 have bX:=Zab w (Obj.cells #[.int .i64 sp,.string nb,.int .i64 pl,.iface t0 y0] 418)
 have hXb:(w.alloc (Obj.cells #[.int .i64 sp,.string nb,.int .i64 pl,.iface t0 y0] 418)).cell? ⟨w.heap.size,1,none⟩=some (.string nb):=by simp
 have CE:=IH.use good _ D k a _ s _ hk hD (fun g hg=>hD2 g (by simp at hg;omega)) (hM.below bX) (ha.below bX) (hs.below bX) pa
 have TB:Hid (∀X,Zaa (·=mb) (w.alloc (Obj.cells #[.int .i64 sp,.string nb,.int .i64 pl,.iface t0 y0] 418)) X→Zaa (·=mb) w X∧X.cell? ⟨w.heap.size,1,none⟩=some (.string nb)):=fun X hX=>⟨(Zaa.of_below bX).trans hX,hX.cell hXb (by show ¬ w.heap.size=mb;omega)⟩
 clear bX hM hs ha hR hXb
 go_enter func237,ntmps237
 go_wp2_with fail
 refine CE.mono ?_
 rintro e w1 ⟨ht1,⟨v,z,k',ho,rfl,hv,hM1,hk1,hfv⟩ | ⟨ho,u,fl,hfl,rfl⟩⟩
 ·obtain⟨TW,cw⟩:=TB.out _ ht1
  have HE:=EV1.out _ _ ho
  rcases Zcn hv with ⟨z,rfl,rfl⟩ | ⟨sx,rfl,rfl⟩ | ⟨l,ad,cap,cs,rfl,rfl,hseg,hvs⟩
  ·have HO:Hid (R=none):=HE
   clear HE EV0 EV1 CE hM1 hv TB ho
   go_wp2_with fail
   go_ret2
   exact Zk7 HO.out (TW.alloc _) (Zb9 _)
  ·have HO:Hid (R=none):=HE
   clear HE EV0 EV1 CE hM1 hv TB ho
   go_wp2_with fail
   go_ret2
   exact Zk7 HO.out (TW.alloc _) (Zb9 _)
  ·have HL:Aside (R=Zcu (evM C k' l)):=HE
   have hwl:=hfv.2
   rw[wtV] at hwl
   have hll:=Zhc l
   have hfi:∀v∈l,Zec v:=fun v hv=>hfv.item hv
   have CI:Hid (∀X,Calls prog 173 #[.agg #[.slice ad l.length cap,.int .i64 ((Zbh l:Nat):Int)]] X _):=fun X=>Zgf ad l.length cap _ X hseg.capOr (by omega)
   generalize hwtl:Zbh l=wl at *
   clear HE EV0 EV1 CE hv TB ho
   go_wp2_with (go_at_call 173;refine (CI.out _).mono ?_;rintro e w2 ⟨rfl,hb2⟩)
   have B12:Below w1.heap.size w1 w2:=(Zab w1 _).trans (hb2.mono (by simp))
   have T2:Zaa (·=mb) w w2:=TW.below_at B12
   have M2:=hM1.below B12
   have cw2:=Below.cellv B12 cw
   have hsg2:=hseg.clip.below B12
   have hvs2:=hvs.below B12
   have hz2:=T2.size
   have hmb2:mb<w2.heap.size:=by omega
   have hk2:k'≤k0:=by omega
   have hl6:l.length≤600:=by omega
   have hli:((l.length:Nat):Int)≤600:=by omega
   clear hb2 B12 CI hM1 hseg hvs cw hfv TW ht1 hwtl hwl hll
   go_loopg [12,39] l.length (fun gh av iv wr=>∃(j kk:Nat) (us:List PV) (cu:List Value) (ad':Option Addr) (cap':Nat),gh=l.length-j∧iv=.int .i64 ((j:Nat):Int)∧av=.slice ad' us.length cap'∧j≤l.length∧Aside (us.length=j)∧kk≤k0∧Aside (∀u∈us,Zec u)∧AL D w2 wr mb fns kk ad' cap' us cu∧Aside (R=Zcu (Zv3 us (evM C kk (l.drop j)))))
   case atStart=>exact⟨0,k',[],[],none,0,by omega,rfl,rfl,Nat.zero_le _,(show _=_ from rfl),hk2,(show ∀u∈[],Zec u from by simp),⟨World.ownsRow_nil _ _ _ _,by rw[VLs],Zaa.refl _ _,M2⟩,by show _=_;rw[Zw8,List.drop_zero];exact HL.out⟩
   case round =>
    obtain⟨j,kk,us,cu,ad',cap',rfl,rfl,rfl,hj,hul,hkk,hfu,al,hPP⟩:=hrel
    have hub:us.length≤600:=by have:=hul.out;omega
    by_cases hjl:j<l.length
    ·have hdr:l.drop j=l[j]::l.drop (j+1):=List.drop_eq_getElem_cons hjl
     rw[hdr] at hPP
     obtain⟨x,hx,hvx⟩:=hvs2.at j hjl
     obtain⟨tx,yx,rfl⟩:=hvx.iface
     obtain⟨g,o2,cp,hcap2,hgD,hc1,hc2,hcell⟩:=hsg2.cell (by omega)
     cases hcap2
     have c0:wr.cell? ⟨g,o2+j,none⟩=some (.iface tx yx):=al.tch.cell (by rw[hcell j (by omega)];exact hx) (by show ¬ g=mb;intro e;exact hD (by rw[←e];exact hgD))
     have c1:wr.cell? ⟨w.heap.size,1,none⟩=some (.string nb):=al.tch.cell cw2 (by show ¬ w.heap.size=mb;omega)
     have hszr:w2.heap.size≤wr.heap.size:=al.tch.size
     have hvr:VL wr (fun b=>D b∧some b≠(Value.slice ad' us.length cap').ownBlock) l[j] (.iface tx yx):=hvx.map fun _ _ _ h=>(h.keep fun q hq hlt=>al.tch.block q hlt (fun e=>hD (by have e:q=mb:=e;rw[←e];exact hq))).weaken fun q hq=>⟨hq.1,fun e=>by have:=(al.row q e.symm).1;have:=hq.2;omega⟩
     have hDw:∀q,wr.heap.size≤q→D q∧some q≠(Value.slice ad' us.length cap').ownBlock:=fun q hq=>⟨hD2 q (by omega),fun e=>by have:=(al.row q e.symm).2;omega⟩
     have hfj:=hfi l[j] (List.getElem_mem hjl)
     have CC:Hid (∀(Z:World) (b:Nat),Below wr.heap.size wr Z→Z.heap[b]?=some (.cells #[.iface tx yx] 81)→wr.heap.size≤b→Calls prog 105 #[.pointer (some ⟨mb,0,none⟩),.string nb,.slice (some ⟨b,0,none⟩) 1 1] Z fun e w'=>Zaa (·=mb) wr w'∧((∃u z k2,C kk l[j]=some (u,k2)∧e=.returned (.tuple #[z,.nilIface])∧VL w' (fun b=>D b∧some b≠(Value.slice ad' us.length cap').ownBlock) u z∧Zfw w' mb fns k2)∨(C kk l[j]=none∧∃u f,Zii f∧e=.returned (.tuple #[u,f])))):=fun Z b hZ hblk hb=>by
      have hcl:=Zv0 hP IH Z (fun b=>D b∧some b≠(Value.slice ad' us.length cap').ownBlock) kk nb [l[j]] [.iface tx yx] _ hkk (fun h=>hD h.1) (fun q hq=>hDw q (by have:=hZ.size;omega)) (al.mch.below hZ) (segBlk hblk (hDw b hb)) (VLs.one (hvr.below hZ)) (fun u hu=>by simp at hu;rw[hu];exact hfj) (by simp)
      rw[←hCe] at hcl
      exact hcl.mono fun e w' h=>⟨(Zaa.of_below hZ).trans h.1,h.2⟩
     have GK:Hid (∀u k2,C kk l[j]=some (u,k2)→Zec u∧k2≤kk):=fun u k2 h=>hCg kk l[j] u k2 hfj h
     have NO:Hid (C kk l[j]=none→R=none):=fun h=>by rw[hPP.out,Z2s h];rfl
     have GO:Hid (∀u k2,C kk l[j]=some (u,k2)→Aside (R=Zcu (Zv3 (us++[u]) (evM C k2 (l.drop (j+1)))))):=fun u k2 h=>by show _=_;rw[hPP.out,Z2r us h]
     have hji:(j:Int)<((l.length:Nat):Int):=by omega
     unfold maxLen at hc2
     clear hcell hx hvx hvr hPP hdr hDw hfj
     generalize l[j]=lj at *
     generalize C kk lj=Ev at *
     go_wp2_with fail
     refine (CC.out _ _ (Zab _ _) (by first | exact heap_alloc_new _ _ | simp) (by simp)).mono ?_
     rintro e w4 ⟨ht4,⟨u,z,k2,ho,rfl,hv,hM4⟩ | ⟨ho,u,f,hf,rfl⟩⟩
     ·obtain⟨tv,xv,rfl⟩:=hv.iface
      have own4:w4.ownsRow w2.heap.size 81 1 (.slice ad' us.length cap') us.length cu:=Zay al.own fun q hq=>ht4.block q (al.row q hq).2 (by have:=(al.row q hq).1;show ¬ q=mb;omega)
      have hsz4:w2.heap.size≤w4.heap.size:=Nat.le_trans hszr ht4.size
      have STH:Hid (∀w6 v' o,_):=fun w6 v' o=>AL.step (w6:=w6) (v':=v') (o:=o) al hD hmb2 ht4 hM4 hv
      obtain⟨hfu2,hk22⟩:=GK.out _ _ ho
      have HM:=GO.out _ _ ho
      have HFU:Aside (∀x∈us++[u],Zec x):=fun x hx=>by
       rcases List.mem_append.1 hx with h | h
       ·exact hfu.out x h
       ·simp at h
        rw[h]
        exact hfu2
      clear CC GK NO GO hv ho hM4 al hfu hfu2
      go_wp2_with (at_builtin;obtain⟨i0,hi,hz0,hz1,hz2⟩:=info_parts Tryz.infoVVal;refine wpList_append_own_at _ rfl _ _ 82 rfl w2.heap.size 81 i0 .nilIface 1 16 underlying82 hi hz0 hz1 hz2 rfl (by decide) _ _ _ rfl (own4.alloc _) ⟨w4.heap.size,0,none⟩ 1 1 [.iface tv xv] rfl rfl (cell_one_new _ _ _) (fun x hx=>by simp at hx;subst hx;rfl) (by unfold maxLen;omega) (by omega) (by simp;omega) ?_;intro v' w6 hown' hgrow hnil hob;clear hi hz0 hz1 hz2)
      go_roundg (l.length-(j+1))
      case measure=>omega
      case rel =>
       obtain⟨ad2,cap2,rfl,al2⟩:=STH.out _ _ _ hown' hgrow hob
       exact⟨j+1,k2,_,_,ad2,cap2,rfl,by go_num,rfl,by omega,(by show _=_;have:=hul.out;simp;omega),by omega,HFU,al2,HM⟩
     ·have HF:Hid (Zii f):=hf
      have HO:Hid (R=none):=NO.out ho
      obtain⟨tf,yf,rfl⟩:=hf.iface
      have ht5:=(T2.trans al.tch).trans ht4
      clear CC GK NO GO hf ho al
      go_wp2_with fail
      go_ret2
      exact Zk7 HO.out ht5 HF.out
    ·have hjj:j=l.length:=by omega
     have hji:¬ (j:Int)<((l.length:Nat):Int):=by omega
     have HO:Hid (R=if wtV (.lst us)≤600 then some (.lst us,kk) else none):=by
      have h2:=hPP.out
      rw[hjj,List.drop_length] at h2
      rw[h2]
      show Zcu (Zv3 us (some ([],kk)))=_
      simp[Zv3,Zcu]
     have hw:=Zmx us hfu.out
     have hsu:Zar wr D 81 1 (.slice ad' us.length cap') us.length cu:=(Zar.of_row (Zao.of_owns al.own)).weaken fun q hq=>hD2 q (by omega)
     have hvu:VLs wr D us cu:=al.val.weaken fun q hq=>hq.1
     have CN:=Zei D us _ cu wr hsu hvu (by omega)
     have FIN:Hid (∀X,Below wr.heap.size wr X→Zbl D mb fns R w (.returned (.tuple #[.iface 233 (.agg #[.slice ad' us.length cap',.int .i64 ((Zbh us:Nat):Int)]),.nilIface])) X):=fun X hX=>Z24 (v:=.lst us) (k':=kk) HO.out (by rw[wtV];omega) ((T2.trans al.tch).below_at hX) (Zxa (hsu.below hX) (hvu.below hX)) (al.mch.below hX)
     generalize Zbh us=W at *
     clear hsu hvu HO hPP hfu hsg2 hvs2 al IH
     subst hjj
     go_wp2_with (go_at_call 201;refine CN.mono ?_;rintro e w5 ⟨rfl,hb5⟩)
     go_ret2
     exact FIN.out _ hb5
 ·obtain⟨TW,_⟩:=TB.out _ ht1
  have HO:Hid (R=none):=EV0.out ho
  have HF:Hid (Zii fl):=hfl
  obtain⟨tf,yf,rfl⟩:=hfl.iface
  clear EV0 EV1 CE TB ho hfl
  go_wp2_with fail
  go_ret2
  exact Zk7 HO.out TW HF.out
end
end Go.Proofs.YtliapghpeoaonaaGreatDoor
namespace Go.Proofs.YtliapghpeoaonaaGreatDoor
open Go.Proofs.Tryz
open Go.RowKit Go.Lib
attribute [local go_sem ↓] Go.wp_at_zero Go.wp_at_succ
theorem Zl7 (x:Value)(w:World):(Instr.typeAssert (.iface 432 x) 141 432 true).run prog w=.ok (.tuple #[x,.bool true]) w:=by kernel_rfl
theorem Zou (x:Value)(w:World):(Instr.typeAssert (.iface 434 x) 141 432 true).run prog w=.ok (.tuple #[.agg #[.int .i64 0,.int .i64 0],.bool false]) w:=by kernel_rfl
theorem Zsh (x:Value)(w:World):(Instr.typeAssert (.iface 434 x) 141 434 true).run prog w=.ok (.tuple #[x,.bool true]) w:=by kernel_rfl
theorem Zjg (x:Value)(w:World):(Instr.typeAssert (.iface 409 x) 141 432 true).run prog w=.ok (.tuple #[.agg #[.int .i64 0,.int .i64 0],.bool false]) w:=by kernel_rfl
theorem Zl6 (x:Value)(w:World):(Instr.typeAssert (.iface 409 x) 141 434 true).run prog w=.ok (.tuple #[.agg #[.int .i64 0,.string ⟨#[]⟩],.bool false]) w:=by kernel_rfl
theorem Zov (x:Value)(w:World):(Instr.typeAssert (.iface 420 x) 141 432 true).run prog w=.ok (.tuple #[.agg #[.int .i64 0,.int .i64 0],.bool false]) w:=by kernel_rfl
theorem Zsi (x:Value)(w:World):(Instr.typeAssert (.iface 420 x) 141 434 true).run prog w=.ok (.tuple #[.agg #[.int .i64 0,.string ⟨#[]⟩],.bool false]) w:=by kernel_rfl
theorem Zsj (x:Value)(w:World):(Instr.typeAssert (.iface 422 x) 141 432 true).run prog w=.ok (.tuple #[.agg #[.int .i64 0,.int .i64 0],.bool false]) w:=by kernel_rfl
theorem Zxo (x:Value)(w:World):(Instr.typeAssert (.iface 422 x) 141 434 true).run prog w=.ok (.tuple #[.agg #[.int .i64 0,.string ⟨#[]⟩],.bool false]) w:=by kernel_rfl
theorem Zqi (x:Value)(w:World):(Instr.typeAssert (.iface 411 x) 141 432 true).run prog w=.ok (.tuple #[.agg #[.int .i64 0,.int .i64 0],.bool false]) w:=by kernel_rfl
theorem Zur (x:Value)(w:World):(Instr.typeAssert (.iface 411 x) 141 434 true).run prog w=.ok (.tuple #[.agg #[.int .i64 0,.string ⟨#[]⟩],.bool false]) w:=by kernel_rfl
theorem Zus (x:Value)(w:World):(Instr.typeAssert (.iface 411 x) 141 420 true).run prog w=.ok (.tuple #[.agg #[.int .i64 0,.slice none 0 0],.bool false]) w:=by kernel_rfl
theorem Zz7 (x:Value)(w:World):(Instr.typeAssert (.iface 411 x) 141 422 true).run prog w=.ok (.tuple #[.agg #[.int .i64 0,.nilIface,.nilIface,.nilIface],.bool false]) w:=by kernel_rfl
theorem Zl8 (x:Value)(w:World):(Instr.typeAssert (.iface 427 x) 141 432 true).run prog w=.ok (.tuple #[.agg #[.int .i64 0,.int .i64 0],.bool false]) w:=by kernel_rfl
theorem Zoy (x:Value)(w:World):(Instr.typeAssert (.iface 427 x) 141 434 true).run prog w=.ok (.tuple #[.agg #[.int .i64 0,.string ⟨#[]⟩],.bool false]) w:=by kernel_rfl
theorem Zqj (x:Value)(w:World):(Instr.typeAssert (.iface 429 x) 141 432 true).run prog w=.ok (.tuple #[.agg #[.int .i64 0,.int .i64 0],.bool false]) w:=by kernel_rfl
theorem Zut (x:Value)(w:World):(Instr.typeAssert (.iface 429 x) 141 434 true).run prog w=.ok (.tuple #[.agg #[.int .i64 0,.string ⟨#[]⟩],.bool false]) w:=by kernel_rfl
theorem Zqe (x:Value)(w:World):(Instr.typeAssert (.iface 424 x) 141 432 true).run prog w=.ok (.tuple #[.agg #[.int .i64 0,.int .i64 0],.bool false]) w:=by kernel_rfl
theorem Zuo (x:Value)(w:World):(Instr.typeAssert (.iface 424 x) 141 434 true).run prog w=.ok (.tuple #[.agg #[.int .i64 0,.string ⟨#[]⟩],.bool false]) w:=by kernel_rfl
theorem Zqf (x:Value)(w:World):(Instr.typeAssert (.iface 424 x) 141 427 true).run prog w=.ok (.tuple #[.agg #[.int .i64 0,.string ⟨#[]⟩,.nilIface,.nilIface],.bool false]) w:=by kernel_rfl
theorem Zxl (x:Value)(w:World):(Instr.typeAssert (.iface 424 x) 141 429 true).run prog w=.ok (.tuple #[.agg #[.int .i64 0,.nilIface],.bool false]) w:=by kernel_rfl
theorem Zow (x:Value)(w:World):(Instr.typeAssert (.iface 414 x) 141 432 true).run prog w=.ok (.tuple #[.agg #[.int .i64 0,.int .i64 0],.bool false]) w:=by kernel_rfl
theorem Zsk (x:Value)(w:World):(Instr.typeAssert (.iface 414 x) 141 434 true).run prog w=.ok (.tuple #[.agg #[.int .i64 0,.string ⟨#[]⟩],.bool false]) w:=by kernel_rfl
theorem Zsl (x:Value)(w:World):(Instr.typeAssert (.iface 414 x) 141 420 true).run prog w=.ok (.tuple #[.agg #[.int .i64 0,.slice none 0 0],.bool false]) w:=by kernel_rfl
theorem Zxp (x:Value)(w:World):(Instr.typeAssert (.iface 414 x) 141 422 true).run prog w=.ok (.tuple #[.agg #[.int .i64 0,.nilIface,.nilIface,.nilIface],.bool false]) w:=by kernel_rfl
theorem Zox (x:Value)(w:World):(Instr.typeAssert (.iface 414 x) 141 427 true).run prog w=.ok (.tuple #[.agg #[.int .i64 0,.string ⟨#[]⟩,.nilIface,.nilIface],.bool false]) w:=by kernel_rfl
theorem Zuv (x:Value)(w:World):(Instr.typeAssert (.iface 414 x) 141 429 true).run prog w=.ok (.tuple #[.agg #[.int .i64 0,.nilIface],.bool false]) w:=by kernel_rfl
theorem Zuu (x:Value)(w:World):(Instr.typeAssert (.iface 414 x) 141 424 true).run prog w=.ok (.tuple #[.agg #[.int .i64 0,.nilIface,.nilIface,.nilIface],.bool false]) w:=by kernel_rfl
theorem Zqg (x:Value)(w:World):(Instr.typeAssert (.iface 418 x) 141 432 true).run prog w=.ok (.tuple #[.agg #[.int .i64 0,.int .i64 0],.bool false]) w:=by kernel_rfl
theorem Zup (x:Value)(w:World):(Instr.typeAssert (.iface 418 x) 141 434 true).run prog w=.ok (.tuple #[.agg #[.int .i64 0,.string ⟨#[]⟩],.bool false]) w:=by kernel_rfl
theorem Zuq (x:Value)(w:World):(Instr.typeAssert (.iface 418 x) 141 420 true).run prog w=.ok (.tuple #[.agg #[.int .i64 0,.slice none 0 0],.bool false]) w:=by kernel_rfl
theorem Zz6 (x:Value)(w:World):(Instr.typeAssert (.iface 418 x) 141 422 true).run prog w=.ok (.tuple #[.agg #[.int .i64 0,.nilIface,.nilIface,.nilIface],.bool false]) w:=by kernel_rfl
theorem Zqh (x:Value)(w:World):(Instr.typeAssert (.iface 418 x) 141 427 true).run prog w=.ok (.tuple #[.agg #[.int .i64 0,.string ⟨#[]⟩,.nilIface,.nilIface],.bool false]) w:=by kernel_rfl
theorem Zxn (x:Value)(w:World):(Instr.typeAssert (.iface 418 x) 141 429 true).run prog w=.ok (.tuple #[.agg #[.int .i64 0,.nilIface],.bool false]) w:=by kernel_rfl
theorem Zxm (x:Value)(w:World):(Instr.typeAssert (.iface 418 x) 141 424 true).run prog w=.ok (.tuple #[.agg #[.int .i64 0,.nilIface,.nilIface,.nilIface],.bool false]) w:=by kernel_rfl
attribute [local go_sem] Zl7 Zou Zsh Zjg Zl6 Zdq Zov Zsi Zeu Zhf Zsj Zxo Zf2 Zkr Zqm Zqi Zur Zfi Zus Zz7 Zko Zl8 Zoy Zd3 Zf3 Zhh Zgs Zew Zqj Zut Zfj Zi1 Znf Zkp Zgr Zkq Zqe Zuo Zfg Ziz Znb Zkl Zqf Zxl Zkk Zow Zsk Zev Zsl Zxp Zi2 Zox Zuv Zuu Zhg Zqg Zup Zfh Zuq Zz6 Zkn Zqh Zxn Zxm Zi0 Zkm
theorem Zja {D:Nat→Prop}{mb:Nat}{fns:List Fn}{o:Option (PV×Nat)}{w w1 w':World}{e:Ending}(hb:Below w.heap.size w w1)(h:Zbl D mb fns o w1 e w'):Zbl D mb fns o w e w':=⟨(Zaa.of_below hb).trans h.1,h.2⟩
theorem Zhs (w:World):Below w.heap.size w w:=Below.refl _ _
section
variable {D:Nat→Prop} {mb:Nat} {fns:List Fn} {R:Option (PV×Nat)}
theorem cy_num (w:World)(sp x:Int)(m o:Option Addr):Calls prog 193 #[.pointer m,.iface 432 (.agg #[.int .i64 sp,.int .i64 x]),.pointer o] w fun e w'=>e=.returned (.tuple #[.iface 228 (.int .i64 x),.nilIface])∧Below w.heap.size w w':=by
 go_enter func193,ntmps193
 go_wp2_with fail
 go_ret2
 exact⟨rfl,by first | exact Zhs w | exact Zab w _⟩
theorem cy_txt (w:World)(sp:Int)(b:ByteArray)(m o:Option Addr):Calls prog 193 #[.pointer m,.iface 434 (.agg #[.int .i64 sp,.string b]),.pointer o] w fun e w'=>e=.returned (.tuple #[.iface 231 (.string b),.nilIface])∧Below w.heap.size w w':=by
 go_enter func193,ntmps193
 go_wp2_with fail
 go_ret2
 exact⟨rfl,by first | exact Zhs w | exact Zab w _⟩
theorem cy_var (w:World)(sp:Int)(b:ByteArray)(m o:Option Addr)(V:Option PV)(C:∀X,Below w.heap.size w X→Calls prog 229 #[.pointer o,.string b] X (Zcx D X V)):Calls prog 193 #[.pointer m,.iface 409 (.agg #[.int .i64 sp,.string b]),.pointer o] w (Zcx D w V):=by
 have C2:Hid (∀X,Below w.heap.size w X→Calls prog 229 #[.pointer o,.string b] X fun e w'=>(∃u f,e=.returned (.tuple #[u,f]))∧Zcx D w V e w'):=fun X hX=>(C X hX).mono fun e w' h=>⟨Zpb h,hX.trans (h.1.mono hX.size),h.2⟩
 clear C
 go_enter func193,ntmps193
 go_wp2_with (go_at_call 229;refine (C2.out _ (by first | exact Zhs w | exact Zab w _)).mono ?_;rintro e w1 ⟨⟨u1,f1,rfl⟩,hr1⟩)
 go_ret2
 exact hr1
theorem Z22 (w:World)(sp:Int)(t1 t2 t3:TypeId)(y1 y2 y3:Value)(m o:Option Addr)(C:∀X,Below w.heap.size w X→Calls prog 231 #[.pointer m,.agg #[.int .i64 sp,.iface t1 y1,.iface t2 y2,.iface t3 y3],.pointer o] X (Zbl D mb fns R X)):Calls prog 193 #[.pointer m,.iface 422 (.agg #[.int .i64 sp,.iface t1 y1,.iface t2 y2,.iface t3 y3]),.pointer o] w (Zbl D mb fns R w):=by
 have C2:Hid (∀X,Below w.heap.size w X→Calls prog 231 #[.pointer m,.agg #[.int .i64 sp,.iface t1 y1,.iface t2 y2,.iface t3 y3],.pointer o] X fun e w'=>(∃u f,e=.returned (.tuple #[u,f]))∧Zbl D mb fns R w e w'):=fun X hX=>(C X hX).mono fun e w' h=>⟨Zoj h,Zja hX h⟩
 clear C
 go_enter func193,ntmps193
 go_wp2_with (go_at_call 231;refine (C2.out _ (by first | exact Zhs w | exact Zab w _)).mono ?_;rintro e w1 ⟨⟨u1,f1,rfl⟩,hr1⟩)
 go_ret2
 exact hr1
theorem cy_let (w:World)(sp:Int)(nb:ByteArray)(pl:Int)(t1 t2:TypeId)(y1 y2:Value)(m o:Option Addr)(C:∀X,Below w.heap.size w X→Calls prog 232 #[.pointer m,.agg #[.int .i64 sp,.string nb,.int .i64 pl,.iface t1 y1,.iface t2 y2],.pointer o] X (Zbl D mb fns R X)):Calls prog 193 #[.pointer m,.iface 411 (.agg #[.int .i64 sp,.string nb,.int .i64 pl,.iface t1 y1,.iface t2 y2]),.pointer o] w (Zbl D mb fns R w):=by
 have C2:Hid (∀X,Below w.heap.size w X→Calls prog 232 #[.pointer m,.agg #[.int .i64 sp,.string nb,.int .i64 pl,.iface t1 y1,.iface t2 y2],.pointer o] X fun e w'=>(∃u f,e=.returned (.tuple #[u,f]))∧Zbl D mb fns R w e w'):=fun X hX=>(C X hX).mono fun e w' h=>⟨Zoj h,Zja hX h⟩
 clear C
 go_enter func193,ntmps193
 go_wp2_with (go_at_call 232;refine (C2.out _ (by first | exact Zhs w | exact Zab w _)).mono ?_;rintro e w1 ⟨⟨u1,f1,rfl⟩,hr1⟩)
 go_ret2
 exact hr1
theorem Z23 (w:World)(sp:Int)(nb:ByteArray)(t1 t2:TypeId)(y1 y2:Value)(m o:Option Addr)(C:∀X,Below w.heap.size w X→Calls prog 233 #[.pointer m,.agg #[.int .i64 sp,.string nb,.iface t1 y1,.iface t2 y2],.pointer o] X (Zbl D mb fns R X)):Calls prog 193 #[.pointer m,.iface 427 (.agg #[.int .i64 sp,.string nb,.iface t1 y1,.iface t2 y2]),.pointer o] w (Zbl D mb fns R w):=by
 have C2:Hid (∀X,Below w.heap.size w X→Calls prog 233 #[.pointer m,.agg #[.int .i64 sp,.string nb,.iface t1 y1,.iface t2 y2],.pointer o] X fun e w'=>(∃u f,e=.returned (.tuple #[u,f]))∧Zbl D mb fns R w e w'):=fun X hX=>(C X hX).mono fun e w' h=>⟨Zoj h,Zja hX h⟩
 clear C
 go_enter func193,ntmps193
 go_wp2_with (go_at_call 233;refine (C2.out _ (by first | exact Zhs w | exact Zab w _)).mono ?_;rintro e w1 ⟨⟨u1,f1,rfl⟩,hr1⟩)
 go_ret2
 exact hr1
theorem Z21 (w:World)(sp:Int)(t1:TypeId)(y1:Value)(m o:Option Addr)(C:∀X,Below w.heap.size w X→Calls prog 234 #[.pointer m,.agg #[.int .i64 sp,.iface t1 y1],.pointer o] X (Zbl D mb fns R X)):Calls prog 193 #[.pointer m,.iface 429 (.agg #[.int .i64 sp,.iface t1 y1]),.pointer o] w (Zbl D mb fns R w):=by
 have C2:Hid (∀X,Below w.heap.size w X→Calls prog 234 #[.pointer m,.agg #[.int .i64 sp,.iface t1 y1],.pointer o] X fun e w'=>(∃u f,e=.returned (.tuple #[u,f]))∧Zbl D mb fns R w e w'):=fun X hX=>(C X hX).mono fun e w' h=>⟨Zoj h,Zja hX h⟩
 clear C
 go_enter func193,ntmps193
 go_wp2_with (go_at_call 234;refine (C2.out _ (by first | exact Zhs w | exact Zab w _)).mono ?_;rintro e w1 ⟨⟨u1,f1,rfl⟩,hr1⟩)
 go_ret2
 exact hr1
theorem cy_set (w:World)(sp:Int)(t1 t2 t3:TypeId)(y1 y2 y3:Value)(m o:Option Addr)(C:∀X,Below w.heap.size w X→Calls prog 235 #[.pointer m,.agg #[.int .i64 sp,.iface t1 y1,.iface t2 y2,.iface t3 y3],.pointer o] X (Zbl D mb fns R X)):Calls prog 193 #[.pointer m,.iface 424 (.agg #[.int .i64 sp,.iface t1 y1,.iface t2 y2,.iface t3 y3]),.pointer o] w (Zbl D mb fns R w):=by
 have C2:Hid (∀X,Below w.heap.size w X→Calls prog 235 #[.pointer m,.agg #[.int .i64 sp,.iface t1 y1,.iface t2 y2,.iface t3 y3],.pointer o] X fun e w'=>(∃u f,e=.returned (.tuple #[u,f]))∧Zbl D mb fns R w e w'):=fun X hX=>(C X hX).mono fun e w' h=>⟨Zoj h,Zja hX h⟩
 clear C
 go_enter func193,ntmps193
 go_wp2_with (go_at_call 235;refine (C2.out _ (by first | exact Zhs w | exact Zab w _)).mono ?_;rintro e w1 ⟨⟨u1,f1,rfl⟩,hr1⟩)
 go_ret2
 exact hr1
theorem cy_call (w:World)(sp:Int)(nb:ByteArray)(pl:Int)(ad:Option Addr)(n cap:Nat)(m o:Option Addr)(C:∀X,Below w.heap.size w X→Calls prog 236 #[.pointer m,.agg #[.int .i64 sp,.string nb,.int .i64 pl,.slice ad n cap],.pointer o] X (Zbl D mb fns R X)):Calls prog 193 #[.pointer m,.iface 414 (.agg #[.int .i64 sp,.string nb,.int .i64 pl,.slice ad n cap]),.pointer o] w (Zbl D mb fns R w):=by
 have C2:Hid (∀X,Below w.heap.size w X→Calls prog 236 #[.pointer m,.agg #[.int .i64 sp,.string nb,.int .i64 pl,.slice ad n cap],.pointer o] X fun e w'=>(∃u f,e=.returned (.tuple #[u,f]))∧Zbl D mb fns R w e w'):=fun X hX=>(C X hX).mono fun e w' h=>⟨Zoj h,Zja hX h⟩
 clear C
 go_enter func193,ntmps193
 go_wp2_with (go_at_call 236;refine (C2.out _ (by first | exact Zhs w | exact Zab w _)).mono ?_;rintro e w1 ⟨⟨u1,f1,rfl⟩,hr1⟩)
 go_ret2
 exact hr1
theorem cy_map (w:World)(sp:Int)(nb:ByteArray)(pl:Int)(t1:TypeId)(y1:Value)(m o:Option Addr)(C:∀X,Below w.heap.size w X→Calls prog 237 #[.pointer m,.agg #[.int .i64 sp,.string nb,.int .i64 pl,.iface t1 y1],.pointer o] X (Zbl D mb fns R X)):Calls prog 193 #[.pointer m,.iface 418 (.agg #[.int .i64 sp,.string nb,.int .i64 pl,.iface t1 y1]),.pointer o] w (Zbl D mb fns R w):=by
 have C2:Hid (∀X,Below w.heap.size w X→Calls prog 237 #[.pointer m,.agg #[.int .i64 sp,.string nb,.int .i64 pl,.iface t1 y1],.pointer o] X fun e w'=>(∃u f,e=.returned (.tuple #[u,f]))∧Zbl D mb fns R w e w'):=fun X hX=>(C X hX).mono fun e w' h=>⟨Zoj h,Zja hX h⟩
 clear C
 go_enter func193,ntmps193
 go_wp2_with (go_at_call 237;refine (C2.out _ (by first | exact Zhs w | exact Zab w _)).mono ?_;rintro e w1 ⟨⟨u1,f1,rfl⟩,hr1⟩)
 go_ret2
 exact hr1
theorem cy_list (w:World)(sp:Int)(ad:Option Addr)(n cap:Nat)(m o:Option Addr)(nn k:Nat)(L:Option (List PV×Nat))(hn:nn≤7000)(C:∀X,Below w.heap.size w X→Calls prog 230 #[.pointer m,.pointer o,.slice ad n cap] X fun e w'=>∃u f,e=.returned (.tuple #[u,f])∧Zaa (·=mb) X w'∧Z3q D mb fns L nn k u f w'):Calls prog 193 #[.pointer m,.iface 420 (.agg #[.int .i64 sp,.slice ad n cap]),.pointer o] w (Zbl D mb fns (Zcu L) w):=by
 obtain⟨R,hR⟩:∃R,R=Zcu L:=⟨_,rfl⟩
 rw[←hR]
 have HR:Aside (R=Zcu L):=hR
 clear hR
 have C2:Hid (∀X,Below w.heap.size w X→Calls prog 230 #[.pointer m,.pointer o,.slice ad n cap] X fun e w'=>∃u f,e=.returned (.tuple #[u,f])∧Zaa (·=mb) w w'∧Hid (Z3q D mb fns L nn k u f w')):=fun X hX=>(C X hX).mono fun e w' ⟨u,f,h1,h2,h3⟩=>⟨u,f,h1,(Zaa.of_below hX).trans h2,h3⟩
 clear C
 go_enter func193,ntmps193
 go_wp2_with fail
 refine (C2.out _ (by first | exact Zhs w | exact Zab w _)).mono ?_
 rintro e w1 ⟨u1,f1,rfl,ht1,hr1⟩
 obtain⟨vs,cs,k',hL,rfl,hvl,hfi,hseg,hvs,hM1,_⟩ | ⟨hL,hf,rfl⟩:=hr1.out
 ·have hw:=Zmx vs hfi
  rw[←hvl] at hseg
  have CN:=Zei D vs u1 cs w1 hseg hvs (by omega)
  obtain⟨ua,uc,rfl⟩:=hseg.slice
  have FIN:Hid (∀X,Below w1.heap.size w1 X→Zbl D mb fns R w (.returned (.tuple #[.iface 233 (.agg #[.slice ua vs.length uc,.int .i64 ((Zbh vs:Nat):Int)]),.nilIface])) X):=fun X hX=>Z24 (v:=.lst vs) (k':=k') (by rw[HR.out,hL];rfl) (by rw[wtV];omega) (ht1.below_at hX) (Zxa (hseg.below hX) (hvs.below hX)) (hM1.below hX)
  generalize Zbh vs=W at *
  clear C2 hr1 hL hseg hvs hM1 hfi HR hvl
  go_wp2_with (go_at_call 201;refine CN.mono ?_;rintro e w2 ⟨rfl,hb2⟩)
  go_ret2
  exact FIN.out _ hb2
 ·have HO:Hid (R=none):=by rw[HR.out,hL];rfl
  have HF:Hid (Zii f1):=hf
  obtain⟨tf,yf,rfl⟩:=hf.iface
  have CN:=Zei D [] (.slice none 0 0) [] w1 ⟨rfl,Or.inl ⟨⟨_,_,rfl⟩,rfl⟩⟩ (by rw[VLs]) (by simp[Zbh])
  rw[show Zbh []=0 from rfl] at CN
  clear C2 hr1 hL hf HR
  go_wp2_with (go_at_call 201;refine CN.mono ?_;rintro e w2 ⟨rfl,hb2⟩)
  go_ret2
  exact Zk7 HO.out (ht1.below_at hb2) HF.out
end
end Go.Proofs.YtliapghpeoaonaaGreatDoor
