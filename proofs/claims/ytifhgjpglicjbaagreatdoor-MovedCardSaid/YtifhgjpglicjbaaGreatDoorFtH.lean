/-
  Frames, the program: Model, Send.
-/
import Derived.Test.YtifhgjpglicjbaaGreatDoorFtF
import Derived.Test.YtifhgjpglicjbaaGreatDoorShB
import Derived.Test.YtifhgjpglicjbaaGreatDoorReA
import Derived.Deep.LoopGhost
import Derived.Deep.AppendLies
import Derived.Test.YtifhgjpglicjbaaGreatDoorRdA
import Derived.Test.YtifhgjpglicjbaaGreatDoorFsS
set_option maxHeartbeats 1000000
set_option maxRecDepth 8000
namespace Go.Proofs.YtifhgjpglicjbaaGreatDoor
open Go.Proofs.Tryz
open Go.RowKit Go.Lib Go.MuLone
attribute [local go_sem ↓] Go.wp_at_zero Go.wp_at_succ
theorem Model_ok {w:World}{ab:Nat}{fns:List Fn}{c:AC}{a:PA}(h:AppAt w ab fns 0 c a):
  Calls prog 22 #[.pointer (some ⟨ab,0,none⟩)] w fun e w'=>e=.returned (.string ⟨(wrV a.model).toArray⟩)∧Below ab w w'∧AppAt w' ab fns 0 c a:=by
 have h1:=h.lock 1
 have b1:Below ab w (w.setCell ⟨ab,0,none⟩ (.int .i32 1)):=(h.set 0 _).2.2
 have c0:w.cell? ⟨ab,0,none⟩=some (.int .i32 0):=h.cell 0
 have f0:=h.frozen 0
 have hlt:=h.lt
 obtain⟨W1,hW1⟩:∃W1,W1=w.setCell ⟨ab,0,none⟩ (.int .i32 1):=⟨_,rfl⟩
 rw[←hW1] at h1 b1
 have CLock:=(lock_free muLib ⟨ab,0,none⟩ _ c0 f0).mono (fun e w' (hp:_∧_)=>(⟨hp.1,hp.2.trans hW1.symm⟩:e=.returned (.tuple #[])∧w'=W1))
 have c3:W1.cell? ⟨ab,3,none⟩=some c.xm:=h1.cell 3
 have hf:=h.st.fm
 have hf2:wtV a.model≤600:=hf.2
 have CW:=Write_any (NQ c.qv a.foe) a.model c.xm W1 h1.st.model hf.1 (by omega) h1.st.num.p10
 have FIN:Hid (∀X,Below W1.heap.size W1 X→X.cell? ⟨ab,0,none⟩=some (.int .i32 1)∧X.frozen? ⟨ab,0,none⟩=false∧Below ab w (X.setCell ⟨ab,0,none⟩ (.int .i32 0))∧AppAt (X.setCell ⟨ab,0,none⟩ (.int .i32 0)) ab fns 0 c a):=fun X hX=>by
  have hXa:=h1.below hX
  refine⟨hXa.cell 0,hXa.frozen 0,?_,hXa.lock 0⟩
  have hz:ab≤W1.heap.size:=by have:=h1.lt;omega
  exact (b1.trans (hX.mono hz)).trans (hXa.set 0 _).2.2
 obtain⟨tm,ym,hxm⟩:=h.st.model.iface
 rw[hxm] at CW c3
 generalize wrV a.model=R at *
 clear h h1 hxm hW1 hf hf2 b1
 go_enter_defers func22,ntmps22
 go_wp2_with (first
  |(go_at_call 32;refine CLock.mono ?_;clear CLock;rintro e w1 ⟨rfl,rfl⟩)
  |(go_at_call 29;refine CW.mono ?_;rintro e w2 ⟨rfl,hb2⟩;obtain⟨d0,g0,q1,q2⟩:=FIN.out w2 hb2))
 refine leaves_cons (f:=33) (args:=#[.pointer (some ⟨ab,0,none⟩)]) (by simp) (by simp[go_sem]) ?_
 refine (unlock_deferred muLib ⟨ab,0,none⟩ .returning _ d0 g0).mono ?_
 rintro e u' w3 ⟨rfl,rfl,rfl⟩
 exact⟨_,results_tmp rfl _ _ _,rfl,q1,q2⟩
theorem send_ok {fns:List Fn}{w:World}{ab:Nat}{lk:Int}{c:AC}{a:PA}(h:AppAt w ab fns lk c a)(s:ByteArray)(v:PV)(hs:s.size≤1000000)(hr:readV s.data.toList=some v)(hdr:a.dropped≤900000000):
  Calls prog 37 #[.pointer (some ⟨ab,0,none⟩),.string s] w fun e w'=>∃c',e=.returned .nilIface∧Below ab w w'∧AppAt w' ab fns lk c' (layA a [v]):=by
 have hm:=h.st.hm
 have hlt:=h.lt
 have hD:=NQ.new h.st
 obtain⟨_,ho,hw⟩:=readV_some hr
 have CR:Calls prog 53 #[.string s] w fun e w1=>∃tx yx,e=.returned (.tuple #[.iface tx yx,.nilIface])∧Calls prog 45 #[.pointer (some ⟨ab,0,none⟩),.slice (some ⟨w1.heap.size,0,none⟩) 1 1] (w1.alloc (.cells #[.iface tx yx] 74)) fun e w'=>∃(z:Int) (c':AC),e=.returned (.int .i64 z)∧Below ab w w'∧AppAt w' ab fns lk c' (layA a [v]):=by
  refine (Read_any s w (by omega) h.st.num (by omega)).mono fun e w1 hp=>?_
  rw[hr] at hp
  obtain⟨hb,⟨v',x,hv1,he,hvl⟩ | ⟨hv1,_⟩⟩:=hp
  ·cases hv1
   obtain⟨tx,yx,rfl⟩:=hvl.iface
   refine⟨tx,yx,he,?_⟩
   have ba:=below1 w1 (.cells #[.iface tx yx] 74)
   have bb:=hb.trans (ba.mono hb.size)
   have hX:=h.below bb
   have hbs:=hb.size
   have hv2:VL (w1.alloc (.cells #[.iface tx yx] 74)) (NQ c.qv a.foe) v (.iface tx yx):=(hvl.weaken fun k hk=>hD k (by omega)).below ba
   refine (lay_ok hX [v] (some ⟨w1.heap.size,0,none⟩) 1 [.iface tx yx] ⟨rfl,Or.inr ⟨w1.heap.size,0,1,#[.iface tx yx],rfl,hD _ hbs,heap_alloc_new _ _,Nat.le_refl _,by unfold maxLen;omega,by simp,by simp⟩⟩ (VLs.one hv2) (fun m hm=>by rw[List.mem_singleton] at hm;rw[hm];exact⟨ho,hw⟩) (by simp) hdr).mono fun e w' ⟨c',h1,h2,h3⟩=>⟨_,c',h1,(bb.mono (by omega)).trans h2,h3⟩
  ·cases hv1
 generalize layA a [v]=A' at *
 clear h hr ho hw hD
 go_enter func37,ntmps37
 go_wp2_with fail
 refine CR.mono ?_
 rintro e w1 ⟨tx,yx,rfl,CL⟩
 clear CR
 go_wp2_with fail
 refine CL.mono ?_
 rintro e w2 ⟨z,c',rfl,hb2,hA2⟩
 clear CL
 go_wp2_with fail
 go_ret
 exact⟨c',rfl,hb2,hA2⟩
theorem Send_ok {fns:List Fn}{w:World}{ab:Nat}{c:AC}{a:PA}(h:AppAt w ab fns 0 c a)(s:ByteArray)(v:PV)(hs:s.size≤1000000)(hr:readV s.data.toList=some v)(hdr:a.dropped≤900000000):
  Calls prog 19 #[.pointer (some ⟨ab,0,none⟩),.string s] w fun e w'=>∃c',e=.returned .nilIface∧Below ab w w'∧AppAt w' ab fns 0 c' (layA a [v]):=by
 have h1:=h.lock 1
 have b1:Below ab w (w.setCell ⟨ab,0,none⟩ (.int .i32 1)):=(h.set 0 _).2.2
 have c0:w.cell? ⟨ab,0,none⟩=some (.int .i32 0):=h.cell 0
 have f0:=h.frozen 0
 have hlt:=h.lt
 obtain⟨W1,hW1⟩:∃W1,W1=w.setCell ⟨ab,0,none⟩ (.int .i32 1):=⟨_,rfl⟩
 rw[←hW1] at h1 b1
 have CLock:=(lock_free muLib ⟨ab,0,none⟩ _ c0 f0).mono (fun e w' (hp:_∧_)=>(⟨hp.1,hp.2.trans hW1.symm⟩:e=.returned (.tuple #[])∧w'=W1))
 have CS:=send_ok h1 s v hs hr hdr
 have FIN:Hid (∀X c',Below ab W1 X→AppAt X ab fns 1 c' (layA a [v])→X.cell? ⟨ab,0,none⟩=some (.int .i32 1)∧X.frozen? ⟨ab,0,none⟩=false∧Below ab w (X.setCell ⟨ab,0,none⟩ (.int .i32 0))∧AppAt (X.setCell ⟨ab,0,none⟩ (.int .i32 0)) ab fns 0 c' (layA a [v])):=fun X c' hX hA=>⟨hA.cell 0,hA.frozen 0,(b1.trans hX).trans (hA.set 0 _).2.2,hA.lock 0⟩
 generalize layA a [v]=A' at *
 clear h h1 hW1 b1 hr
 go_enter_defers func19,ntmps19
 go_wp2_with (go_at_call 32;refine CLock.mono ?_;clear CLock;rintro e w1 ⟨rfl,rfl⟩)
 refine CS.mono ?_
 rintro e w2 ⟨c',rfl,hb2,hA2⟩
 obtain⟨d0,g0,q1,q2⟩:=FIN.out w2 c' hb2 hA2
 clear CS FIN hA2
 go_wp2_with fail
 refine leaves_cons (f:=33) (args:=#[.pointer (some ⟨ab,0,none⟩)]) (by simp) (by simp[go_sem]) ?_
 refine (unlock_deferred muLib ⟨ab,0,none⟩ .returning _ d0 g0).mono ?_
 rintro e u' w3 ⟨rfl,rfl,rfl⟩
 exact⟨_,results_tmp rfl _ _ _,c',rfl,q1,q2⟩
end Go.Proofs.YtifhgjpglicjbaaGreatDoor
namespace Go.Proofs.YtifhgjpglicjbaaGreatDoor
open Go.Proofs.Tryz
open Go.RowKit Go.Lib
attribute [local go_sem ↓] Go.wp_at_zero Go.wp_at_succ
theorem Tryz.infoIntO:(prog.info? 3).map (fun i=>(i.zero,i.size,i.bytes))=some (some (.int .i64 0),1,8):=by kernel_rfl
def keyB (k:Nat):List UInt8:=107::itoa ((k:Nat):Int)
def keyV (k:Nat):PV:=.txt (keyB k)
def ordA:List Nat→List Int→List Nat
 | acc,[]=>acc
 | acc,z::r=>if acc.length<9 then (if pickA z 12∈acc then ordA acc r else ordA (acc++[pickA z 12]) r) else acc
theorem ordA_full:∀{acc:List Nat} {r:List Int},¬ acc.length<9→ordA acc r=acc
 | acc,[],_=>rfl
 | acc,z::r,h=>by rw[ordA,if_neg h]
structure OrdOk (l:List Nat):Prop where
 nd:l.Nodup
 lt:∀k∈l,k<12
 len:l.length≤9
theorem OrdOk.snoc {l:List Nat}(h:OrdOk l){k:Nat}(hk:k<12)(hn:k ∉ l)(hl:l.length<9):OrdOk (l++[k]) :=
 ⟨by rw[List.nodup_append];exact⟨h.nd,by simp,fun a ha b hb=>by simp at hb;subst hb;exact fun e=>hn (e ▸ ha)⟩,fun q hq=>by
  rw[List.mem_append,List.mem_singleton] at hq
  rcases hq with hq | rfl
  ·exact h.lt q hq
  ·exact hk,by rw[List.length_append];simp;omega⟩
theorem ordA_ok:∀{r:List Int} {acc:List Nat},OrdOk acc→OrdOk (ordA acc r)
 | [],acc,h=>h
 | z::r,acc,h=>by
  rw[ordA]
  split
  ·rename_i hl
   split
   ·exact ordA_ok h
   ·rename_i hn
    exact ordA_ok (h.snoc (pickA_lt (by omega)) hn hl)
  ·exact h
def intV (k:Nat):Value:=.int .i64 ((k:Nat):Int)
structure OrI (raw:List Int)(w wr:World)(i:Nat)(acc:List Nat)(v:Value):Prop where
 eq:ordA [] raw=ordA acc (raw.drop i)
 bel:Below w.heap.size w wr
 own:wr.ownsRow w.heap.size 3 1 v acc.length (acc.map intV)
 ok:OrdOk acc
def ordT (acc:List Nat):List UInt8:=40::wrVs (acc.map keyV)
theorem itoa12 {k:Nat}(h:k<12):(itoa ((k:Nat):Int)).length≤2:=by
 rcases k with _ | _ | _ | _ | _ | _ | _ | _ | _ | _ | _ | _ | k<;>first | decide +kernel | omega
theorem key_len {k:Nat}(h:k<12):(wrV (keyV k)).length≤5:=by
 have:=itoa12 h
 simp[keyV,keyB,wrV]
 omega
theorem keyT_len:∀{acc:List Nat},(∀k∈acc,k<12)→(wrT (acc.map keyV)).length≤6*acc.length
 | [],_=>by simp[wrT]
 | k::r,h=>by
  have h1:=key_len (h k (by simp))
  have h2:=keyT_len (acc:=r) fun x hx=>h x (by simp[hx])
  simp only[List.map_cons,wrT,List.length_cons,List.length_append]
  omega
theorem ordT_len {acc:List Nat}(h:∀k∈acc,k<12):(wrVs (acc.map keyV)).length≤6*acc.length:=by
 cases acc with
 | nil=>simp[wrVs]
 | cons k r =>
  have h1:=key_len (h k (by simp))
  have h2:=keyT_len (acc:=r) fun x hx=>h x (by simp[hx])
  simp only[List.map_cons,wrVs,List.length_cons,List.length_append]
  omega
def orP (raw:List Int)(w:World)(e:Ending)(w':World):Prop :=
 ∃v,e=.returned (.tuple #[.string ⟨(wrV (.lst ((ordA [] raw).map keyV))).toArray⟩,v])∧w'.ownsRow w.heap.size 3 1 v (ordA [] raw).length ((ordA [] raw).map intV)∧Below w.heap.size w w'
theorem order_any (raw:List Int)(sl:Value)(w:World)(h:IntsAt w sl raw)(hall:∀x∈raw,In64 x):Calls prog 18 #[sl] w (orP raw w):=by
 obtain⟨ad,cap,rfl,h1,h2,hc⟩:=h
 have CP:Hid (∀i (hi:i<raw.length) X,Calls prog 10 #[.int .i64 raw[i],.int .i64 12] X fun e w'=>e=.returned (.int .i64 ((pickA raw[i] 12:Nat):Int))∧w'=X):=fun i hi X=>pick_any raw[i] 12 X (hall _ (List.getElem_mem hi)) (by omega) (by omega)
 have CN:Hid (∀(k:Nat) X,k<12→Calls prog 9 #[.int .i64 ((k:Nat):Int)] X fun e w'=>e=.returned (.string ⟨(itoa ((k:Nat):Int)).toArray⟩)∧w'=X):=fun k X hk=>number_any (k:Int) X (by unfold In64;omega)
 have ST:Hid (OrI raw w w 0 [] (.slice none 0 0)):=⟨rfl,Below.refl _ _,World.ownsRow_nil _ _ _ _,⟨by simp,by simp,by simp⟩⟩
 have CELL:Hid (∀wr i acc v,OrI raw w wr i acc v→i<raw.length→∃g o,ad=some ⟨g,o,none⟩∧wr.cell? ⟨g,o+i,none⟩=some (.int .i64 (raw.getD i 0))∧Calls prog 10 #[.int .i64 (raw.getD i 0),.int .i64 12] wr fun e w'=>∃k:Nat,e=.returned (.int .i64 ((k:Nat):Int))∧w'=wr∧k<12∧k=pickA (raw.getD i 0) 12):=fun wr i acc v hA hi=>by
  obtain⟨g,o,hg,hcl⟩:=hc i hi
  refine⟨g,o,hg,?_,?_⟩
  ·rw[List.getD_eq_getElem?_getD,List.getElem?_eq_getElem hi]
   exact Below.cellv hA.bel hcl
  ·rw[List.getD_eq_getElem?_getD,List.getElem?_eq_getElem hi]
   exact (CP.out i hi wr).mono fun e w' hp=>⟨_,hp.1,hp.2,pickA_lt (by omega),rfl⟩
 have ROW:Hid (∀wr i acc v,OrI raw w wr i acc v→acc.length≤9∧(wrVs (acc.map keyV)).length≤54∧∃vad vcap,v=.slice vad acc.length vcap∧∀j,j<acc.length→∃g,vad=some ⟨g,0,none⟩∧acc.length≤vcap∧vcap≤9223372036854775807∧wr.cell? ⟨g,j,none⟩=some (.int .i64 ((acc.getD j 0:Nat):Int))):=fun wr i acc v hA=>by
  have hl:=ordT_len hA.ok.lt
  have hn:=hA.ok.len
  refine⟨hn,by omega,?_⟩
  obtain⟨vad,vcap,rfl⟩:=owns_slice hA.own
  refine⟨vad,vcap,rfl,fun j hj=>?_⟩
  rcases hA.own.2 with ⟨_,h0⟩ | ⟨g,cap',cur,hv,hg,hh,hc',hm,hz,ht⟩
  ·omega
  ·cases hv
   refine⟨g,rfl,hc',by unfold maxLen at hm;omega,?_⟩
   have e1:=congrArg (·[j]?) ht
   simp only[Nat.mul_one] at e1
   rw[List.getElem?_take_of_lt (by omega),List.getElem?_map,List.getElem?_eq_getElem hj] at e1
   unfold World.cell?
   rw[hh]
   rw[List.getD_eq_getElem?_getD,List.getElem?_eq_getElem hj]
   simpa[intV] using e1
 have STEP0:Hid (∀wr i acc v,OrI raw w wr i acc v→i<raw.length→acc.length<9→pickA (raw.getD i 0) 12∈acc→OrI raw w wr (i+1) acc v):=fun wr i acc v hA hi hl hm=>by
  refine⟨?_,hA.bel,hA.own,hA.ok⟩
  rw[hA.eq,List.drop_eq_getElem_cons hi,ordA,if_pos hl,if_pos]
  rw[List.getD_eq_getElem?_getD,List.getElem?_eq_getElem hi] at hm
  exact hm
 have STEP1:Hid (∀wr i acc v k,OrI raw w wr i acc v→i<raw.length→acc.length<9→k=pickA (raw.getD i 0) 12→k ∉ acc→wr.ownsRow w.heap.size 3 1 v acc.length (acc.map intV)∧w.heap.size≤wr.heap.size∧∀w' v',w'.ownsRow w.heap.size 3 1 v' (acc.length+1) (acc.map intV++[.int .i64 ((k:Nat):Int)])→(wr.alloc (.cells #[.int .i64 ((k:Nat):Int)] 3)).grownBy w' v.ownBlock→OrI raw w w' (i+1) (acc++[k]) v'):=fun wr i acc v k hA hi hl hk hm=>by
  refine⟨hA.own,hA.bel.size,fun w' v' ho hg=>⟨?_,?_,?_,?_⟩⟩
  ·rw[hA.eq,List.drop_eq_getElem_cons hi,ordA,if_pos hl]
   rw[List.getD_eq_getElem?_getD,List.getElem?_eq_getElem hi] at hk
   have hk:k=pickA raw[i] 12:=hk
   rw[←hk,if_neg hm]
  ·exact (hA.bel.alloc hA.bel.size _).grown hg (by simp;have:=hA.bel.size;omega) fun q hq=>(hA.own.lt q hq).1
  ·rw[List.length_append,List.map_append]
   exact ho
  ·exact hA.ok.snoc (by rw[hk];exact pickA_lt (by omega)) hm hl
 have DONE:Hid (∀wr i acc v,OrI raw w wr i acc v→(¬ i<raw.length∨¬ acc.length<9)→orP raw w (.returned (.tuple #[.string ((⟨(ordT acc).toArray⟩:ByteArray)++⟨#[41]⟩),v])) wr):=fun wr i acc v hA hd=>by
  have e:ordA [] raw=acc:=by
   rw[hA.eq]
   rcases hd with hd | hd
   ·rw[List.drop_eq_nil_of_le (by omega),ordA]
   ·exact ordA_full hd
  refine⟨v,?_,by rw[e];exact hA.own,hA.bel⟩
  have:(⟨(ordT acc).toArray⟩:ByteArray)++⟨#[41]⟩=⟨(wrV (.lst ((ordA [] raw).map keyV))).toArray⟩:=by
   apply ByteArray.ext
   rw[wrV,ordT,e]
   simp
  rw[this]
 have SNOC:Hid (∀(acc:List Nat) (k:Nat),(acc=[]→((⟨(ordT acc).toArray⟩:ByteArray)++⟨#[39,107]⟩++⟨(itoa ((k:Nat):Int)).toArray⟩++⟨#[39]⟩)=⟨(ordT (acc++[k])).toArray⟩)∧(acc≠[]→((⟨(ordT acc).toArray⟩:ByteArray)++⟨#[32]⟩++⟨#[39,107]⟩++⟨(itoa ((k:Nat):Int)).toArray⟩++⟨#[39]⟩)=⟨(ordT (acc++[k])).toArray⟩)):=fun acc k=>by
  refine⟨fun e=>?_,fun e=>?_⟩
  ·subst e
   apply ByteArray.ext
   simp[ordT,wrVs,wrT,keyV,keyB,wrV]
  ·apply ByteArray.ext
   simp only[ordT,List.map_append,List.map_cons,List.map_nil,wrVs_snoc]
   rw[if_neg (by simpa using e)]
   simp[keyV,keyB,wrV]
 have NLEN:Hid (∀k:Nat,k<12→(itoa ((k:Nat):Int)).length≤2):=fun k hk=>itoa12 hk
 have OTL:Hid (∀acc:List Nat,(ordT acc).length=(wrVs (acc.map keyV)).length+1):=fun acc=>rfl
 unfold maxLen at h2
 generalize orP raw w=POST at *
 obtain⟨L,hL⟩:∃L,L=raw.length:=⟨_,rfl⟩
 rw[←hL] at CELL STEP0 STEP1 DONE h1 ⊢
 have hci:(L:Int)≤(cap:Int):=by omega
 have hcm:(cap:Int)≤9223372036854775807:=by omega
 clear hc hall CP hL
 go_enter func18,ntmps18
 go_wp2_with fail
 go_loopg [4,5,6] L (fun gh sv lv iv wr=>∃(i:Nat) (acc:List Nat),gh=L-i∧sv=.string ⟨(ordT acc).toArray⟩∧iv=.int .i64 ((i:Nat):Int)∧i≤L∧Aside (OrI raw w wr i acc lv))
 case atStart=>exact⟨0,[],by omega,rfl,rfl,Nat.zero_le _,(show OrI raw w _ 0 [] _ from ST.out)⟩
 case round =>
  obtain⟨i,acc,rfl,rfl,rfl,hi,hA⟩:=hrel
  obtain⟨hn9,hsl,vad,vcap,rfl,hrow⟩:=ROW.out _ _ _ _ hA.out
  have hotl:=OTL.out acc
  by_cases hlt:i<L
  ·by_cases hl9:acc.length<9
   ·obtain⟨g,o,rfl,hcl,CPK⟩:=CELL.out _ _ _ _ hA.out hlt
    have S0:=STEP0.out _ _ _ _ hA.out hlt hl9
    have S1:Hid (∀k,_):=fun k=>STEP1.out _ _ _ _ k hA.out hlt hl9
    have S0':Hid _:=S0
    have hii:(i:Int)<(L:Int):=by omega
    have hai:(acc.length:Int)<9:=by omega
    clear S0 hA STEP0 STEP1 DONE ROW CELL OTL ST
    go_wp2_with (go_at_call 10;refine CPK.mono ?_;rintro e w1 ⟨k,rfl,rfl,hk12,hkp⟩;have HK:Hid _:=hkp;clear hkp CPK)
    have TW:Hid (∀j:Nat,j<acc.length→(decide (k∈acc.take j) || (((acc.getD j 0:Nat):Int)==((k:Nat):Int)))=decide (k∈acc.take (j+1))):=fun j hj=>by
     rw[List.take_succ_eq_append_getElem hj,List.getD_eq_getElem?_getD,List.getElem?_eq_getElem hj]
     simp only[List.mem_append,List.mem_singleton,Option.getD_some]
     by_cases hq:k=acc[j]
     ·simp[hq]
     ·have:¬ ((acc[j]:Nat):Int)=(k:Int):=by omega
      simp[hq,this]
    go_loopg [8,9] acc.length (fun gh tv jv wq=>∃j:Nat,gh=acc.length-j∧tv=.bool (decide (k∈acc.take j))∧jv=.int .i64 ((j:Nat):Int)∧j≤acc.length∧wq=w1)
    case atStart=>exact⟨0,by omega,by simp,rfl,Nat.zero_le _,rfl⟩
    case round =>
     obtain⟨j,rfl,rfl,rfl,hj,rfl⟩:=hrel
     by_cases hjl:j<acc.length
     ·obtain⟨gv,rfl,hvc,hvm,hcj⟩:=hrow j hjl
      have hji:(j:Int)<(acc.length:Int):=by omega
      have htw:=TW.out j hjl
      clear TW S0' S1
      cases htk:decide (k∈acc.take j) with
      | true =>
       rw[htk] at htw
       go_wp2_with fail
       go_roundg (acc.length-(j+1))
       case measure=>omega
       case rel=>exact⟨j+1,rfl,by rw[←htw];simp[List.getElem?_eq_getElem hjl],by go_num,by omega,rfl⟩
      | false =>
       rw[htk] at htw
       go_wp2_with fail
       go_roundg (acc.length-(j+1))
       case measure=>omega
       case rel=>exact⟨j+1,rfl,by rw[←htw];simp[List.getElem?_eq_getElem hjl],by go_num,by omega,rfl⟩
     ·have hje:j=acc.length:=by omega
      subst hje
      clear hrow hj TW hjl
      rw[List.take_length]
      have CNK:=CN.out k wr hk12
      have hnl:=NLEN.out k hk12
      by_cases hm:k∈acc
      ·rw[decide_eq_true hm]
       have FI:=S0'.out (by rw[←HK.out];exact hm)
       have FI2:Hid _:=FI
       clear FI S0' S1 CNK HK hm
       go_wp2_with fail
       go_roundg (L-(i+1))
       case measure=>omega
       case rel=>exact⟨i+1,acc,rfl,rfl,by go_num,by omega,(show OrI raw w _ (i+1) acc _ from FI2.out)⟩
      ·rw[decide_eq_false hm]
       obtain⟨o1,o2,NX⟩:=S1.out k HK.out hm
       have NX2:Hid _:=NX
       obtain⟨sn1,sn2⟩:=SNOC.out acc k
       have SN1:Hid _:=sn1
       have SN2:Hid _:=sn2
       clear NX S0' S1 HK hm sn1 sn2 SNOC
       have hol:((ordT acc).length:Int)≤60:=by omega
       have hnli:((itoa ((k:Nat):Int)).length:Int)≤2:=by omega
       by_cases h0:acc=[]
       ·have hal:¬ (0:Int)<(acc.length:Int):=by rw[h0];simp
        have H0:Hid (acc=[]):=h0
        clear h0
        go_wp2_with (first
         |(go_at_call 9;refine CNK.mono ?_;rintro e w3 ⟨rfl,rfl⟩;clear CNK)
         |(at_builtin;obtain⟨i0,hi',hz0,hz1,hz2⟩:=info_parts Tryz.infoIntO;refine wpList_append_own_at _ rfl _ _ 22 rfl w.heap.size 3 i0 _ 1 8 underlying22 hi' hz0 hz1 hz2 rfl (by decide) _ _ _ rfl (o1.alloc _) ⟨_,0,none⟩ 1 1 [.int .i64 ((k:Nat):Int)] rfl rfl (World.news_of_block (heap_alloc_new _ _)) (fun x hx=>by simp at hx;subst hx;rfl) (by unfold maxLen;omega) (by omega) (by simp;omega) ?_;intro v6 w6 own6 hg6 hn6 hob6;clear hi' hz0 hz1 hz2))
        have N6:=NX2.out w6 v6 own6 hg6
        have HN:Hid _:=N6
        clear N6
        go_roundg (L-(i+1))
        case measure=>omega
        case rel=>exact⟨i+1,acc++[k],rfl,by rw[←SN1.out H0.out],by go_num,by omega,(show OrI raw w _ (i+1) (acc++[k]) _ from HN.out)⟩
       ·have hal:(0:Int)<(acc.length:Int):=by have:=List.length_pos_iff.2 h0;omega
        have H0:Hid (acc≠[]):=h0
        clear h0
        go_wp2_with (first
         |(go_at_call 9;refine CNK.mono ?_;rintro e w3 ⟨rfl,rfl⟩;clear CNK)
         |(at_builtin;obtain⟨i0,hi',hz0,hz1,hz2⟩:=info_parts Tryz.infoIntO;refine wpList_append_own_at _ rfl _ _ 22 rfl w.heap.size 3 i0 _ 1 8 underlying22 hi' hz0 hz1 hz2 rfl (by decide) _ _ _ rfl (o1.alloc _) ⟨_,0,none⟩ 1 1 [.int .i64 ((k:Nat):Int)] rfl rfl (World.news_of_block (heap_alloc_new _ _)) (fun x hx=>by simp at hx;subst hx;rfl) (by unfold maxLen;omega) (by omega) (by simp;omega) ?_;intro v6 w6 own6 hg6 hn6 hob6;clear hi' hz0 hz1 hz2))
        have N6:=NX2.out w6 v6 own6 hg6
        have HN:Hid _:=N6
        clear N6
        go_roundg (L-(i+1))
        case measure=>omega
        case rel=>exact⟨i+1,acc++[k],rfl,by rw[←SN2.out H0.out],by go_num,by omega,(show OrI raw w _ (i+1) (acc++[k]) _ from HN.out)⟩
   ·have FI:=DONE.out _ _ _ _ hA.out (Or.inr hl9)
    have FI2:Hid _:=FI
    have hii:(i:Int)<(L:Int):=by omega
    have hai:¬ (acc.length:Int)<9:=by omega
    have hol:((ordT acc).length:Int)≤60:=by omega
    clear FI hA DONE STEP0 STEP1 CELL ROW SNOC hrow ST
    go_wp2_with fail
    exact FI2.out
  ·have FI:=DONE.out _ _ _ _ hA.out (Or.inl hlt)
   have FI2:Hid _:=FI
   have hii:¬ (i:Int)<(L:Int):=by omega
   have hol:((ordT acc).length:Int)≤60:=by omega
   clear FI hA DONE STEP0 STEP1 CELL ROW SNOC hrow ST
   go_wp2_with fail
   exact FI2.out
end Go.Proofs.YtifhgjpglicjbaaGreatDoor
namespace Go.Proofs.YtifhgjpglicjbaaGreatDoor
open Go.Proofs.Tryz
open Go.Lib
def ky0L:List UInt8:=[40,102,117,110,32,110,111,100,101,32,40,120,41,32,40,108,105,115,116,32,39,101,108,39,32,39,108,105,39,32,40,108,105,115,116,32,40,108,105,115,116,32,39,111,110,39,32,39,116,97,112,39,32,120,41,41,32,40,108,105,115,116,32,120,41,41,41,32,40,102,117,110,32,112,97,105,114,32,40,120,41,32,40,108,105,115,116,32,120,32,40,99,97,108,108,32,110,111,100,101,32,120,41,41,41,32,40,102,117,110,32,105,110,105,116,32,40,41,32,40,108,105,115,116,41,41,32,40,102,117,110,32,117,112,100,97,116,101,32,40,109,32,110,41,32,109,41,32,40,102,117,110,32,118,105,101,119,32,40,110,41,32,40,108,105,115,116,32,39,107,101,121,101,100,39,32,39,117,108,39,32,40,108,105,115,116,41,32,40,109,97,112,32,112,97,105,114,32,110,41,41,41]
def ky0F:List Fn:=[⟨[110,111,100,101],5,[([120],11)],.form [108,105,115,116] [] 15 [.txt [101,108],.txt [108,105],.form [108,105,115,116] [] 31 [.form [108,105,115,116] [] 37 [.txt [111,110],.txt [116,97,112],.var [120] 53]],.form [108,105,115,116] [] 58 [.var [120] 63]]⟩,
 ⟨[112,97,105,114],73,[([120],79)],.form [108,105,115,116] [] 83 [.var [120] 88,.form [99,97,108,108] [110,111,100,101] 96 [.var [120] 101]]⟩,
 ⟨[105,110,105,116],111,[],.form [108,105,115,116] [] 120 []⟩,
 ⟨[117,112,100,97,116,101],132,[([109],140),([110],142)],.var [109] 145⟩,
 ⟨[118,105,101,119],153,[([110],159)],.form [108,105,115,116] [] 163 [.txt [107,101,121,101,100],.txt [117,108],.form [108,105,115,116] [] 182 [],.form [109,97,112] [112,97,105,114] 193 [.var [110] 198]]⟩]
def ky1L:List UInt8:=[40,102,117,110,32,110,111,100,101,32,40,120,41,32,40,108,105,115,116,32,39,101,108,39,32,39,108,105,39,32,40,108,105,115,116,32,40,108,105,115,116,32,39,111,110,39,32,39,116,97,112,39,32,120,41,41,32,40,108,105,115,116,32,120,41,41,41,32,40,102,117,110,32,112,97,105,114,32,40,120,41,32,40,108,105,115,116,32,120,32,40,108,105,115,116,32,39,108,97,122,121,39,32,39,110,111,100,101,39,32,120,41,41,41,32,40,102,117,110,32,105,110,105,116,32,40,41,32,40,108,105,115,116,41,41,32,40,102,117,110,32,117,112,100,97,116,101,32,40,109,32,110,41,32,109,41,32,40,102,117,110,32,118,105,101,119,32,40,110,41,32,40,108,105,115,116,32,39,107,101,121,101,100,39,32,39,117,108,39,32,40,108,105,115,116,41,32,40,109,97,112,32,112,97,105,114,32,110,41,41,41]
def ky1F:List Fn:=[⟨[110,111,100,101],5,[([120],11)],.form [108,105,115,116] [] 15 [.txt [101,108],.txt [108,105],.form [108,105,115,116] [] 31 [.form [108,105,115,116] [] 37 [.txt [111,110],.txt [116,97,112],.var [120] 53]],.form [108,105,115,116] [] 58 [.var [120] 63]]⟩,
 ⟨[112,97,105,114],73,[([120],79)],.form [108,105,115,116] [] 83 [.var [120] 88,.form [108,105,115,116] [] 91 [.txt [108,97,122,121],.txt [110,111,100,101],.var [120] 110]]⟩,
 ⟨[105,110,105,116],120,[],.form [108,105,115,116] [] 129 []⟩,
 ⟨[117,112,100,97,116,101],141,[([109],149),([110],151)],.var [109] 154⟩,
 ⟨[118,105,101,119],162,[([110],168)],.form [108,105,115,116] [] 172 [.txt [107,101,121,101,100],.txt [117,108],.form [108,105,115,116] [] 191 [],.form [109,97,112] [112,97,105,114] 202 [.var [110] 207]]⟩]
theorem kevL_cons {E:Nat→Ex→Option (PV×Nat)}{k k1 k2:Nat}{e:Ex}{es:List Ex}{v:PV}{vs:List PV}(h1:E k e=some (v,k1))(h2:evL E k1 es=some (vs,k2)):evL E k (e::es)=some (v::vs,k2):=by
 rw[evL,h1]
 simp only[h2]
theorem kev_list {F:List Fn}{f k k' p:Nat}{s:Env}{ks:List Ex}{vs:List PV}(h:evL (fun k e=>evE F f k s e) k ks=some (vs,k'))(hw:1+wtVs vs≤600):evE F (f+1) (k+1) s (.form [108,105,115,116] [] p ks)=some (.lst vs,k'):=by
 rw[evE,evX,if_neg (by decide),if_neg (by decide),h]
 show evF _ _ _ _ _ _=_
 unfold evF
 rw[if_pos rfl,lightL,wtV,if_pos hw]
theorem ky0_loads:Loads ky0L ky0F:=loads_of (by kernel_rfl) (by decide +kernel)
theorem ky1_loads:Loads ky1L ky1F:=loads_of (by kernel_rfl) (by decide +kernel)
def kyL (way:Bool):List UInt8:=if way then ky1L else ky0L
def kyF (way:Bool):List Fn:=if way then ky1F else ky0F
theorem ky_loads (way:Bool):Loads (kyL way) (kyF way):=by
 cases way
 ·exact ky0_loads
 ·exact ky1_loads
def tapHs (x:List UInt8):List Hd:=[⟨[116,97,112],.txt x,false⟩]
def liV (x:List UInt8):PV:=.lst [.txt [101,108],.txt [108,105],.lst [.lst [.txt [111,110],.txt [116,97,112],.txt x]],.lst [.txt x]]
def lzV (x:List UInt8):PV:=.lst [.txt [108,97,122,121],.txt [110,111,100,101],.txt x]
def ndV (way:Bool)(x:List UInt8):PV:=if way then lzV x else liV x
def prV (way:Bool)(x:List UInt8):PV:=.lst [.txt x,ndV way x]
def vwV (way:Bool)(l:List (List UInt8)):PV:=.lst [.txt [107,101,121,101,100],.txt [117,108],.lst [],.lst (l.map (prV way))]
def ksV (l:List (List UInt8)):PV:=.lst (l.map PV.txt)
theorem ky_init (way:Bool):reckP (kyF way) initB.data.toList []=some (ksV []):=by cases way<;>kernel_rfl
theorem ky_upd (way:Bool)(m n:PV):reckP (kyF way) updB.data.toList [m,n]=some m:=by cases way<;>kernel_rfl
theorem ky_pump (way:Bool)(k:Nat)(m n:PV):pumpM (kyF way) (k+1) [m] n=some (m,[],1):=by
 rw[pumpM,ky_upd]
 simp only
 cases k<;>rfl
def kyC (way:Bool):Nat:=if way then 6 else 14
def KyX (x:List UInt8):Prop:=x.length=2∨x.length=3
theorem KyX.cases {x:List UInt8}(h:KyX x):(∃a b,x=[a,b])∨∃a b c,x=[a,b,c]:=by
 rcases x with _ | ⟨a,_ | ⟨b,_ | ⟨c,_ | ⟨d,r⟩⟩⟩⟩
 ·rcases h with h | h<;>simp at h
 ·rcases h with h | h<;>simp at h
 ·exact Or.inl ⟨a,b,rfl⟩
 ·exact Or.inr ⟨a,b,c,rfl⟩
 ·rcases h with h | h<;>simp at h
theorem ky_pair (way:Bool)(f k:Nat)(x:List UInt8)(hx:KyX x):evC (evE (kyF way) (f+6)) (kyF way) (k+kyC way) [112,97,105,114] [.txt x]=some (prV way x,k):=by
 rcases hx.cases with ⟨a,b,rfl⟩ | ⟨a,b,c,rfl⟩
 ·cases way
  ·kernel_rfl
  ·kernel_rfl
 ·cases way
  ·kernel_rfl
  ·kernel_rfl
theorem ky_map (way:Bool)(f:Nat):∀(l:List (List UInt8)) (k:Nat),(∀x∈l,KyX x)→evM (fun k v=>evC (evE (kyF way) (f+6)) (kyF way) k [112,97,105,114] [v]) (k+kyC way*l.length) (l.map PV.txt)=some (l.map (prV way),k)
 | [],k,_=>rfl
 | z::r,k,h=>by
  show evM _ _ (.txt z::r.map PV.txt)=_
  have e:k+kyC way*(z::r).length=(k+kyC way*r.length)+kyC way:=by simp[Nat.mul_add];omega
  rw[e,evM,ky_pair _ _ _ _ (h z (by simp))]
  simp only
  rw[ky_map way f r k fun x hx=>h x (by simp[hx])]
  rfl
def kyP (way:Bool):Nat×Nat×Nat×Nat:=if way then (172,191,202,207) else (163,182,193,198)
def kyB (way:Bool):Ex:=.form [108,105,115,116] [] (kyP way).1 [.txt [107,101,121,101,100],.txt [117,108],.form [108,105,115,116] [] (kyP way).2.1 [],.form [109,97,112] [112,97,105,114] (kyP way).2.2.1 [.var [110] (kyP way).2.2.2]]
def kyE (v:PV):Env:=[([110],v)]
theorem ky_reck (way:Bool)(v:PV):reckP (kyF way) viewB.data.toList [v]=(evE (kyF way) 20000 20000 (kyE v) (kyB way)).map (·.1):=by cases way<;>kernel_rfl
theorem ky_t1 (way:Bool)(f k:Nat)(v:PV)(t:List UInt8):evE (kyF way) (f+1) (k+1) (kyE v) (.txt t)=some (.txt t,k):=by cases way<;>kernel_rfl
theorem ky_t2 (way:Bool)(f k p:Nat)(v:PV):evE (kyF way) (f+2) (k+1) (kyE v) (.form [108,105,115,116] [] p [])=some (.lst [],k):=by cases way<;>kernel_rfl
theorem ky_t3 (way:Bool)(f k p q:Nat)(L:List PV):evE (kyF way) (f+2) (k+2) (kyE (.lst L)) (.form [109,97,112] [112,97,105,114] p [.var [110] q])=lightL (evM (fun k v=>evC (evE (kyF way) (f+1)) (kyF way) k [112,97,105,114] [v]) k L):=by cases way<;>kernel_rfl
theorem wt_pr (way:Bool)(x:List UInt8)(hx:KyX x):wtV (prV way x)≤40:=by
 have:x.length≤3:=by rcases hx with h | h<;>omega
 cases way<;>(simp[prV,ndV,liV,lzV,wtV,wtVs];omega)
theorem wt_prs (way:Bool):∀l:List (List UInt8),(∀x∈l,KyX x)→wtVs (l.map (prV way))≤40*l.length
 | [],_=>by simp[wtVs]
 | x::r,h=>by
  have:=wt_pr way x (h x (by simp))
  have:=wt_prs way r fun x hx=>h x (by simp[hx])
  simp only[List.map_cons,wtVs,List.length_cons]
  omega
theorem ky_view (way:Bool)(l:List (List UInt8))(hl:l.length≤12)(hx:∀x∈l,KyX x):reckP (kyF way) viewB.data.toList [ksV l]=some (vwV way l):=by
 rw[ky_reck]
 have hw:=wt_prs way l hx
 have hc:kyC way≤14:=by cases way<;>decide
 have hm:kyC way*l.length≤14*12:=Nat.mul_le_mul hc hl
 have h4:evE (kyF way) 19999 19996 (kyE (ksV l)) (.form [109,97,112] [112,97,105,114] (kyP way).2.2.1 [.var [110] (kyP way).2.2.2])=some (.lst (l.map (prV way)),19994-kyC way*l.length):=by
  unfold ksV
  rw[ky_t3 way 19997 19994]
  have:=ky_map way 19992 l (19994-kyC way*l.length) hx
  rw[show 19994-kyC way*l.length+kyC way*l.length=19994 by omega] at this
  rw[this,lightL,wtV,if_pos (by omega)]
 have:evE (kyF way) 20000 20000 (kyE (ksV l)) (kyB way)=some (vwV way l,19994-kyC way*l.length):=by
  refine kev_list (kevL_cons (ky_t1 way 19998 19998 _ _) (kevL_cons (ky_t1 way 19998 19997 _ _) (kevL_cons (ky_t2 way 19997 19996 _ _) (kevL_cons h4 rfl)))) ?_
  simp only[wtVs,wtV,List.length_cons,List.length_nil]
  omega
 rw[this]
 rfl
theorem ky_viewT (way:Bool)(x:List UInt8):reckP (kyF way) viewB.data.toList [.txt x]=none:=by cases way<;>kernel_rfl
abbrev Ent:=List UInt8×Nat×Option (List UInt8)
def liA (b b1:Nat)(e:Ent):An:=.el b ⟨e.2.1,e.2.2⟩ [108,105] [] (tapHs e.1) [.txt b1 ⟨e.2.1+1,none⟩ e.1]
def nodeL:List UInt8:=[110,111,100,101]
def lzA (bz b b1:Nat)(e:Ent):An:=.lz bz nodeL [.txt e.1] (liA b b1 e)
def KN (way:Bool)(e:Ent)(n:An):Prop:=if way then ∃bz b b1,n=lzA bz b b1 e else ∃b b1,n=liA b b1 e
def ulA (b:Nat)(E:List Ent)(ns:List An):An:=.ky b ⟨1,none⟩ [117,108] [] [] (E.map (·.1)) ns
def nx1 (x:List UInt8)(oe:Option Ent)(g:Nat):Ent×Nat:=match oe with
 | some e=>((x,e.2.1,e.2.2),g)
 | none=>((x,g+1,none),g+2)
def nxt (E0:List Ent):Nat→List (List UInt8)→List Ent×Nat
 | g,[]=>([],g)
 | g,x::r=>((nx1 x (E0.find? (·.1==x)) g).1::(nxt E0 (nx1 x (E0.find? (·.1==x)) g).2 r).1,(nxt E0 (nx1 x (E0.find? (·.1==x)) g).2 r).2)
theorem nxt_keys (E0:List Ent):∀(l:List (List UInt8)) (g:Nat),(nxt E0 g l).1.map (·.1)=l
 | [],g=>rfl
 | x::r,g=>by
  rw[nxt]
  simp only[List.map_cons]
  rw[nxt_keys E0 r]
  congr 1
  unfold nx1
  split<;>rfl
def frsh (E0:List Ent)(l:List (List UInt8)):Nat:=(l.filter fun x=>(E0.find? (·.1==x)).isNone).length
def entT (e:Ent):List UInt8:=[60,108,105]++markT ⟨e.2.1,e.2.2⟩++[62,35]++itoa ((e.2.1+1:Nat):Int)++[32,39]++e.1++[39,60,47,108,105,62]
def entsT:List Ent→List UInt8
 | []=>[]
 | e::r=>entT e++entsT r
def ulT (E:List Ent):List UInt8:=[60,117,108,35,49,62]++entsT E++[60,47,117,108,62]
theorem KN.tree {way:Bool}{e:Ent}{n:An}(h:KN way e n):treeT (er n)=entT e:=by
 cases way
 ·obtain⟨b,b1,rfl⟩:=h
  simp[liA,er,erL,treeT,treesT,entT,attrT,markT]
 ·obtain⟨bz,b,b1,rfl⟩:=h
  simp[lzA,liA,er,erL,treeT,treesT,entT,attrT,markT]
inductive KNs (way:Bool):List Ent→List An→Prop
 | nil:KNs way [] []
 | cons {e:Ent} {n:An} {E:List Ent} {ns:List An}:KN way e n→KNs way E ns→KNs way (e::E) (n::ns)
theorem KNs.tree {way:Bool}{E:List Ent}{ns:List An}(h:KNs way E ns):treesT (erL ns)=entsT E:=by
 induction h with
 | nil=>rfl
 | cons h _ ih=>rw[erL,treesT,entsT,h.tree,ih]
theorem ul_tree {way:Bool}{b:Nat}{E:List Ent}{ns:List An}(h:KNs way E ns):treeT (er (ulA b E ns))=ulT E:=by
 simp only[ulA,er,treeT,h.tree,ulT,attrT,markT]
 simp[show itoa 1=[49] from by kernel_rfl]
theorem ul_bare (b:Nat)(E:List Ent)(ns:List An):bareO (some (ulA b E ns))=some (ulA b E ns):=rfl
def OppR (way:Bool)(x:List UInt8)(o:Option An)(oe:Option Ent):Prop:=(o=none∧oe=none)∨∃n e,o=some n∧oe=some e∧e.1=x∧KN way e n
theorem find_opp {way:Bool}{E0:List Ent}{ns0:List An}(h:KNs way E0 ns0)(x:List UInt8):OppR way x (((E0.map (·.1)).findIdx? (x==·)).bind fun j=>ns0[j]?) (E0.find? (·.1==x)):=by
 induction h with
 | nil=>exact Or.inl ⟨rfl,rfl⟩
 | @cons e n E ns hk _ ih =>
  by_cases hx:e.1=x
  ·refine Or.inr ⟨n,e,?_,?_,hx,hk⟩
   ·simp[List.findIdx?_cons,hx]
   ·simp[hx]
  ·have hx2:¬ x=e.1:=fun h=>hx h.symm
   have e1:(((e::E).map (·.1)).findIdx? (x==·)).bind (fun j=>(n::ns)[j]?)=((E.map (·.1)).findIdx? (x==·)).bind fun j=>ns[j]?:=by
    simp only[List.map_cons,List.findIdx?_cons]
    rw[if_neg (by simpa using hx2)]
    cases (E.map (·.1)).findIdx? (x==·)<;>simp
   have e2:(e::E).find? (·.1==x)=E.find? (·.1==x):=by
    rw[List.find?_cons_of_neg (by simpa using hx)]
   rw[e1,e2]
   exact ih
theorem lookA_lst {F:List Fn}(f c z:Nat)(l:List PV)(o:Option An)(hc:¬ 100≤c):lookA F (f+1) c z (.lst l) o=lookX F (lookA F f) (c+1) z o l:=by rw[lookA,if_neg hc]
theorem look_li {F:List Fn}(f c z:Nat)(x:List UInt8)(o:Option An)(hc:c+2≤100):lookA F (f+2) c z (liV x) o=some (.el [108,105] [] (tapHs x) [.txt x],c+2,z):=by
 have h1:∀o',lookA F (f+1) (c+1) z (.txt x) o'=some (.txt x,c+2,z):=fun o'=>by rw[lookA,if_neg (by omega)]
 have hw1:wordN [108,105]=true:=by decide
 have hw2:wordN [116,97,112]=true:=by decide
 rw[liV,lookA_lst _ _ _ _ _ (by omega)]
 simp[lookX,headV,lookE,elOf,attrL,attr1,lookL,h1,hw1,hw2,tapHs]
theorem made_li {x:List UInt8}{n:An}{F:List Nat}(h:Made (.el [108,105] [] (tapHs x) [.txt x]) n F):∃b b1,n=.el b mk0 [108,105] [] (tapHs x) [.txt b1 mk0 x]:=by
 rw[Made] at h
 obtain⟨b,ns,G,rfl,_,h⟩:=h
 rw[MadeL] at h
 obtain⟨m,ms,F1,F2,rfl,_,h1,h⟩:=h
 rw[MadeL] at h
 obtain⟨rfl,_⟩:=h
 rw[Made] at h1
 obtain⟨b1,rfl,_⟩:=h1
 exact⟨b,b1,rfl⟩
theorem num_new (b b1:Nat)(x:List UInt8)(g:Nat):numA (.el b mk0 [108,105] [] (tapHs x) [.txt b1 mk0 x]) none g=(liA b b1 (x,g+1,none),g+2):=by
 simp[numA,numAs,markA,liA,oppA,bareO]
theorem num_old (b b1 c c1:Nat)(e:Ent)(g:Nat):numA (.el b mk0 [108,105] [] (tapHs e.1) [.txt b1 mk0 e.1]) (some (liA c c1 e)) g=(liA b b1 e,g):=by
 simp[numA,numAs,markA,liA,oppA,bareO,bareA,alikeK,kdA,markOf]
theorem num_same (b b1:Nat)(e:Ent)(g:Nat):numA (liA b b1 e) (some (liA b b1 e)) g=(liA b b1 e,g):=by
 simp[numA,numAs,markA,liA,oppA,bareO,bareA,alikeK,kdA,markOf]
theorem ky_node (x:List UInt8)(hx:KyX x):reckP ky1F nodeL [.txt x]=some (liV x):=by
 rcases hx.cases with ⟨a,b,rfl⟩ | ⟨a,b,c,rfl⟩
 ·kernel_rfl
 ·kernel_rfl
theorem ky_find:(findF ky1F nodeL 1).isSome=true:=by kernel_rfl
theorem look_lz (f c z:Nat)(x:List UInt8)(o:Option An)(hc:c+3≤100)(hx:KyX x):lookA ky1F (f+3) c z (lzV x) o=(match againA nodeL [.txt x] o with | some n=>if 100<c+1+(sizeA n-1) then none else some (.old n,c+1+(sizeA n-1),z) | none=>some (.lz nodeL [.txt x] (.el [108,105] [] (tapHs x) [.txt x]),c+3,z+1)):=by
 rw[lzV,lookA_lst _ _ _ _ _ (by omega)]
 have e:lookX ky1F (lookA ky1F (f+2)) (c+1) z o [.txt [108,97,122,121],.txt nodeL,.txt x]=lookZ ky1F (lookA ky1F (f+2)) (c+1) z o [.txt nodeL,.txt x]:=by
  simp[lookX,headV]
 show lookX ky1F (lookA ky1F (f+2)) (c+1) z o [.txt [108,97,122,121],.txt nodeL,.txt x]=_
 rw[e]
 simp only[lookZ,headV,List.length_cons,List.length_nil,Nat.zero_add]
 rw[if_pos ky_find]
 cases againA nodeL [.txt x] o with
 | some n=>rfl
 | none =>
  simp only[lookN,ky_node x hx]
  rw[look_li f (c+1) (z+1) x _ (by omega)]
theorem ky_one (way:Bool)(f c z:Nat)(x:List UInt8)(o:Option An)(oe:Option Ent)(hc:c+3≤100)(hx:KyX x)(ho:OppR way x o oe):
  ∃k c' z',lookA (kyF way) (f+3) c z (ndV way x) o=some (k,c',z')∧c'≤c+3∧z'=z+(if way=true∧oe=none then 1 else 0)∧∀n F g,Made k n F→KN way (nx1 x oe g).1 (numA n (bareO o) g).1∧(numA n (bareO o) g).2=(nx1 x oe g).2:=by
 cases way with
 | false =>
  refine⟨_,_,_,look_li (f+1) c z x o (by omega),by omega,by simp,fun n F g hM=>?_⟩
  obtain⟨b,b1,rfl⟩:=made_li hM
  rcases ho with ⟨rfl,rfl⟩ | ⟨m,e,rfl,rfl,rfl,hk⟩
  ·have:bareO none=none:=rfl
   rw[this,num_new]
   exact⟨⟨b,b1,rfl⟩,rfl⟩
  ·obtain⟨c,c1,rfl⟩:=hk
   have:bareO (some (liA c c1 e))=some (liA c c1 e):=rfl
   rw[this,num_old]
   exact⟨⟨b,b1,rfl⟩,rfl⟩
 | true =>
  rcases ho with ⟨rfl,rfl⟩ | ⟨m,e,rfl,rfl,rfl,hk⟩
  ·refine⟨_,_,_,look_lz f c z x none hc hx,by omega,by simp,fun n F g hM=>?_⟩
   rw[Made] at hM
   obtain⟨bz,m,G,rfl,_,hM⟩:=hM
   obtain⟨b,b1,rfl⟩:=made_li hM
   have:bareO none=none:=rfl
   rw[this,numA,num_new]
   exact⟨⟨bz,b,b1,rfl⟩,rfl⟩
  ·obtain⟨bz,c0,c1,rfl⟩:=hk
   have ea:againA nodeL [.txt e.1] (some (lzA bz c0 c1 e))=some (lzA bz c0 c1 e):=by
    simp[againA,lzA,sameVs,sameV]
   have es:sizeA (lzA bz c0 c1 e)=3:=by simp[lzA,liA,sizeA,sizeL]
   refine⟨.old (lzA bz c0 c1 e),c+3,z,?_,?_,?_,fun n F g hM=>?_⟩
   ·show lookA ky1F (f+3) c z (lzV e.1) _=_
    rw[look_lz f c z e.1 _ hc hx,ea]
    simp only[es]
    rw[if_neg (by omega)]
   ·omega
   ·simp
   ·rw[Made] at hM
    obtain⟨rfl,_⟩:=hM
    have:bareO (some (lzA bz c0 c1 e))=some (liA c0 c1 e):=rfl
    rw[this]
    have e2:numA (lzA bz c0 c1 e) (some (liA c0 c1 e)) g=(lzA bz c0 c1 e,g):=by
     unfold lzA
     rw[numA,num_same]
    rw[e2]
    exact⟨⟨bz,c0,c1,rfl⟩,rfl⟩
theorem frsh_cons (E0:List Ent)(x:List UInt8)(r:List (List UInt8)):frsh E0 (x::r)=(if E0.find? (·.1==x)=none then 1 else 0)+frsh E0 r:=by
 unfold frsh
 rw[List.filter_cons]
 cases E0.find? (·.1==x)<;>simp
 omega
theorem ky_list {way:Bool}{E0:List Ent}{b0:Nat}{ns0:List An}(h0:KNs way E0 ns0)(l:List (List UInt8))(f:Nat):∀(r:List (List UInt8)) (i c z:Nat),l.drop i=r→(∀x∈r,KyX x)→c+3*r.length≤100 →
  ∃ks c' z',lookL (lookA (kyF way) (f+3)) (.ky [117,108] l) (some (ulA b0 E0 ns0)) i c z (r.map (ndV way))=some (ks,c',z')∧c'≤c+3*r.length∧z'=z+(if way=true then frsh E0 r else 0)∧∀ms F g,MadeL ks ms F→KNs way (nxt E0 g r).1 (numAs (.ky [117,108] l) (some (ulA b0 E0 ns0)) i ms g).1∧(numAs (.ky [117,108] l) (some (ulA b0 E0 ns0)) i ms g).2=(nxt E0 g r).2
 | [],i,c,z,hd,_,hc=>by
  refine⟨[],c,z,rfl,by omega,by simp[frsh],fun ms F g hM=>?_⟩
  rw[MadeL] at hM
  obtain⟨rfl,_⟩:=hM
  exact⟨KNs.nil,rfl⟩
 | x::r,i,c,z,hd,hx,hc=>by
  simp only[List.length_cons] at hc
  have hi:i<l.length:=by
   have:=congrArg List.length hd
   simp at this
   omega
  rw[List.drop_eq_getElem_cons hi] at hd
  simp only[List.cons.injEq] at hd
  have hop:oppA (.ky [117,108] l) (some (ulA b0 E0 ns0)) i=((E0.map (·.1)).findIdx? (x==·)).bind fun j=>ns0[j]?:=by
   simp only[oppA,ulA,List.getElem?_eq_getElem hi,hd.1]
   simp
  have hR:=find_opp h0 x
  rw[←hop] at hR
  obtain⟨k,c1,z1,e1,e2,e3,e4⟩:=ky_one way f c z x _ _ (by omega) (hx x (by simp)) hR
  obtain⟨ks,c2,z2,f1,f2,f3,f4⟩:=ky_list h0 l f r (i+1) c1 z1 hd.2 (fun q hq=>hx q (by simp[hq])) (by omega)
  refine⟨k::ks,c2,z2,?_,by simp only[List.length_cons];omega,?_,fun ms F g hM=>?_⟩
  ·simp only[List.map_cons,lookL,e1]
   rw[f1]
  ·rw[f3,e3,frsh_cons]
   cases way
   ·simp
   ·simp only[true_and,if_true]
    omega
  ·rw[MadeL] at hM
   obtain⟨m,ms,F1,F2,rfl,_,h1,h2⟩:=hM
   have g1:=e4 m F1 g h1
   have g2:=f4 ms F2 (nx1 x (E0.find? (·.1==x)) g).2 h2
   simp only[numAs,nxt]
   rw[g1.2]
   exact⟨KNs.cons g1.1 g2.1,g2.2⟩
theorem ky_pairs (way:Bool):∀(l ks:List (List UInt8)) (vs:List PV),(ks++l).Nodup→pairL ks vs (l.map (prV way))=some (ks++l,vs++l.map (ndV way))
 | [],ks,vs,_=>by simp[pairL]
 | x::r,ks,vs,h=>by
  have hx:x ∉ ks:=fun hx=>by
   rw[List.nodup_append] at h
   exact h.2.2 x hx x (by simp) rfl
  have h2:((ks++[x])++r).Nodup:=by simpa using h
  simp only[List.map_cons,prV,pairL]
  rw[if_neg hx]
  have:=ky_pairs way r (ks++[x]) (vs++[ndV way x]) h2
  rw[this]
  simp
theorem ky_frame {way:Bool}{E0:List Ent}{b0:Nat}{ns0:List An}(h0:KNs way E0 ns0)(l:List (List UInt8))(hl:l.Nodup)(hn:l.length≤12)(hx:∀x∈l,KyX x):
  ∃k c' z',lookA (kyF way) 10 0 0 (vwV way l) (some (ulA b0 E0 ns0))=some (k,c',z')∧z'=(if way=true then frsh E0 l else 0)∧∀n F g,Made k n F→∃b ns,numA n (bareO (some (ulA b0 E0 ns0))) g=(ulA b (nxt E0 g l).1 ns,(nxt E0 g l).2)∧KNs way (nxt E0 g l).1 ns:=by
 obtain⟨ks,c',z',e1,e2,e3,e4⟩:=ky_list (b0:=b0) h0 l 6 l 0 1 0 rfl hx (by omega)
 refine⟨.ky [117,108] [] [] l ks,c',z',?_,by omega,fun n F g hM=>?_⟩
 ·have hp:=ky_pairs way l [] [] (by simpa using hl)
  simp only[List.nil_append] at hp
  have hw:wordN [117,108]=true:=by decide
  rw[vwV,lookA_lst _ _ _ _ _ (by omega)]
  simp only[lookX,headV]
  rw[if_neg (by decide),if_pos trivial]
  simp only[lookK,elOf]
  rw[if_pos hw]
  simp only[attrL,Option.map_some,hp,Nat.zero_add]
  rw[e1]
 ·rw[Made] at hM
  obtain⟨b,ns,G,rfl,_,h1⟩:=hM
  have hk:=e4 ns G g h1
  have em:markA (.ky [117,108] l) (some (ulA b0 E0 ns0)) g=(⟨1,none⟩,g):=by simp[markA,ulA,kdA,alikeK,markOf]
  refine⟨b,_,?_,hk.1⟩
  rw[ul_bare]
  simp only[numA,em]
  rw[hk.2]
  simp only[ulA,nxt_keys]
theorem ky_first (way:Bool):lookA (kyF way) 10 0 0 (vwV way []) none=some (.ky [117,108] [] [] [] [],1,0):=by cases way<;>kernel_rfl
theorem made_first {_way:Bool}{n:An}{F:List Nat}(h:Made (.ky [117,108] [] [] [] []) n F):∃b,numA n (bareO none) 0=(ulA b [] [],1):=by
 rw[Made] at h
 obtain⟨b,ns,G,rfl,_,h⟩:=h
 rw[MadeL] at h
 obtain⟨rfl,_⟩:=h
 exact⟨b,by simp[numA,numAs,markA,ulA,bareO]⟩
end Go.Proofs.YtifhgjpglicjbaaGreatDoor
namespace Go.Proofs.YtifhgjpglicjbaaGreatDoor
open Go.Proofs.Tryz
open Go.RowKit Go.Lib
attribute [local go_sem ↓] Go.wp_at_zero Go.wp_at_succ
def ky0B:ByteArray:=⟨#[40,102,117,110,32,110,111,100,101,32,40,120,41,32,40,108,105,115,116,32,39,101,108,39,32,39,108,105,39,32,40,108,105,115,116,32,40,108,105,115,116,32,39,111,110,39,32,39,116,97,112,39,32,120,41,41,32,40,108,105,115,116,32,120,41,41,41,32,40,102,117,110,32,112,97,105,114,32,40,120,41,32,40,108,105,115,116,32,120,32,40,99,97,108,108,32,110,111,100,101,32,120,41,41,41,32,40,102,117,110,32,105,110,105,116,32,40,41,32,40,108,105,115,116,41,41,32,40,102,117,110,32,117,112,100,97,116,101,32,40,109,32,110,41,32,109,41,32,40,102,117,110,32,118,105,101,119,32,40,110,41,32,40,108,105,115,116,32,39,107,101,121,101,100,39,32,39,117,108,39,32,40,108,105,115,116,41,32,40,109,97,112,32,112,97,105,114,32,110,41,41,41]⟩
def ky1B:ByteArray:=⟨#[40,102,117,110,32,110,111,100,101,32,40,120,41,32,40,108,105,115,116,32,39,101,108,39,32,39,108,105,39,32,40,108,105,115,116,32,40,108,105,115,116,32,39,111,110,39,32,39,116,97,112,39,32,120,41,41,32,40,108,105,115,116,32,120,41,41,41,32,40,102,117,110,32,112,97,105,114,32,40,120,41,32,40,108,105,115,116,32,120,32,40,108,105,115,116,32,39,108,97,122,121,39,32,39,110,111,100,101,39,32,120,41,41,41,32,40,102,117,110,32,105,110,105,116,32,40,41,32,40,108,105,115,116,41,41,32,40,102,117,110,32,117,112,100,97,116,101,32,40,109,32,110,41,32,109,41,32,40,102,117,110,32,118,105,101,119,32,40,110,41,32,40,108,105,115,116,32,39,107,101,121,101,100,39,32,39,117,108,39,32,40,108,105,115,116,41,32,40,109,97,112,32,112,97,105,114,32,110,41,41,41]⟩
def kyB2 (way:Bool):ByteArray:=if way then ky1B else ky0B
theorem kyB_list (way:Bool):(kyB2 way).data.toList=kyL way:=by cases way<;>kernel_rfl
theorem keyed_any (way:Bool)(w:World):Calls prog 15 #[.int .i64 (if way then 1 else 0)] w fun e w'=>e=.returned (.string (kyB2 way))∧w'=w:=by
 cases way with
 | true =>
  obtain⟨R,hR⟩:∃R,R=kyB2 true:=⟨_,rfl⟩
  rw[←hR]
  show Calls prog 15 #[.int .i64 1] w _
  go_enter func15,ntmps15
  go_wp2_with fail
  go_ret
  refine⟨?_,rfl⟩
  rw[hR]
  kernel_rfl
 | false =>
  obtain⟨R,hR⟩:∃R,R=kyB2 false:=⟨_,rfl⟩
  rw[←hR]
  show Calls prog 15 #[.int .i64 0] w _
  go_enter func15,ntmps15
  go_wp2_with fail
  go_ret
  refine⟨?_,rfl⟩
  rw[hR]
  kernel_rfl
end Go.Proofs.YtifhgjpglicjbaaGreatDoor
