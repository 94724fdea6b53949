/-
  Moved.
-/
import Derived.Test.YtifhgjpglicjbaaGreatDoorScA
import Derived.BigQuiet
set_option maxHeartbeats 1500000
set_option maxRecDepth 8000
namespace Go.Proofs.YtifhgjpglicjbaaGreatDoor
open Go.Proofs.Tryz
open Go.RowKit Go.Lib
attribute [local go_sem ↓] Go.wp_at_zero Go.wp_at_succ
theorem alloc_size (w:World)(o:Obj):(w.alloc o).heap.size=w.heap.size+1:=by
 show (w.heap.push o).size=_
 rw[Array.size_push]
theorem two_rows (W:World)(a b:Obj):Below W.heap.size W ((W.alloc a).alloc b)∧((W.alloc a).alloc b).heap[W.heap.size]?=some a∧((W.alloc a).alloc b).heap[W.heap.size+1]?=some b:=by
 have b1:=below1 W a
 have b2:=below1 (W.alloc a) b
 have hz:=alloc_size W a
 refine⟨b1.trans (b2.mono b1.size),?_,?_⟩
 ·rw[b2.block W.heap.size (by omega)]
  exact heap_alloc_new _ _
 ·rw[←hz]
  exact heap_alloc_new _ _
theorem mvn_start (W:World)(l:List Nat)(E:List Ent)(g:Nat):MvN W l E g ((W.alloc (.cells (idC []) 3)).alloc (.cells (ntC []) 9)) 0:=by
 obtain⟨h1,h2,h3⟩:=two_rows W (.cells (idC []) 3) (.cells (ntC []) 9)
 exact⟨h1,h2,h3⟩
theorem mv_start (way:Bool)(w:World)(E:Nat→Addr)(G:G0 w E):
  Calls prog 14 #[.string (kyB2 way)] w fun e w2=>∃ab,e=.returned (.tuple #[.pointer (some ⟨ab,0,none⟩),.nilIface]) ∧
   Calls prog 16 #[.pointer (some ⟨ab,0,none⟩)] ((w2.alloc (.cells (idC []) 3)).alloc (.cells (ntC []) 9)) fun e w3=>e=.returned .nilIface ∧
   Calls prog 17 #[.pointer (some ⟨ab,0,none⟩)] w3 fun e w4=>e=.returned (.string ⟨#[60,117,108,35,49,62,60,47,117,108,62]⟩)∧MvI w ab way w4 0 [] 1 w2.heap.size (w2.heap.size+1):=by
 refine (knew_ok way w E G.er G.fl G.nu G.sz).mono fun e w2 ⟨ab,c,he,hab,hb,hA⟩=>⟨ab,he,?_⟩
 obtain⟨bb,g1,g2⟩:=two_rows w2 (.cells (idC []) 3) (.cells (ntC []) 9)
 refine (kfirst_ok (hA.below bb)).mono fun e w3 ⟨he3,hb3,hk3,hS3⟩=>⟨he3,?_⟩
 have eT:ulT []=[60,117,108,35,49,62,60,47,117,108,62]:=rfl
 refine (ktree_ok hS3 (by omega) (by rw[eT];decide)).mono fun e w4 ⟨he4,hb4,hk4,hS4⟩=>⟨by rw[he4,eT];rfl,?_⟩
 have hk:=hk3.trans hk4
 refine⟨((hb.trans (bb.mono hb.size)).trans (hb3.mono hab)).trans (hb4.mono hab),hS4,?_,?_,hab,by omega,⟨fun e he=>by simp at he⟩,[],⟨by simp,by simp,by simp⟩,rfl⟩
 ·rw[hk _ ⟨_,Or.inl g1⟩,g1]
 ·rw[hk _ ⟨_,Or.inr g2⟩,g2]
theorem ms_int (w:World):(Instr.makeSlice 22 (.int .i64 12) (.int .i64 12)).run prog w=.ok (.slice (some ⟨w.heap.size,0,none⟩) 12 12) (w.alloc (.cells (idC []) 3)):=by kernel_rfl
theorem ms_str (w:World):(Instr.makeSlice 26 (.int .i64 12) (.int .i64 12)).run prog w=.ok (.slice (some ⟨w.heap.size,0,none⟩) 12 12) (w.alloc (.cells (ntC []) 9)):=by kernel_rfl
attribute [local go_sem] ms_int ms_str
def mvStep (_w:World)(_ab:Nat)(_way:Bool)(W:World)(_i:Nat)(l:List Nat)(E:List Ent)(g gi gn:Nat)(vad:Option Addr)(vcap:Nat)(wq:World)(k:Nat):Prop :=
 ∃(gv x id:Nat) (nt:List UInt8),vad=some ⟨gv,0,none⟩∧l.length≤vcap∧vcap≤9223372036854775807∧x<12∧id≤1000000∧nt.length≤7∧wq.cell? ⟨gv,k,none⟩=some (.int .i64 ((x:Nat):Int))∧wq.cell? ⟨gi,x,none⟩=some (.int .i64 ((id:Nat):Int))∧(∃u,wq.cell? ⟨W.heap.size,x,none⟩=some u)∧wq.frozen? ⟨W.heap.size,x,none⟩=false ∧
  (0<id→(wq.setCell ⟨W.heap.size,x,none⟩ (.int .i64 ((id:Nat):Int))).cell? ⟨gn,x,none⟩=some (.string (bsA nt))∧(∃u,(wq.setCell ⟨W.heap.size,x,none⟩ (.int .i64 ((id:Nat):Int))).cell? ⟨W.heap.size+1,x,none⟩=some u)∧(wq.setCell ⟨W.heap.size,x,none⟩ (.int .i64 ((id:Nat):Int))).frozen? ⟨W.heap.size+1,x,none⟩=false∧((wq.setCell ⟨W.heap.size,x,none⟩ (.int .i64 ((id:Nat):Int))).setCell ⟨W.heap.size+1,x,none⟩ (.string (bsA nt))).cell? ⟨gi,x,none⟩=some (.int .i64 ((id:Nat):Int))∧((wq.setCell ⟨W.heap.size,x,none⟩ (.int .i64 ((id:Nat):Int))).setCell ⟨W.heap.size+1,x,none⟩ (.string (bsA nt))).cell? ⟨W.heap.size+1,x,none⟩=some (.string (bsA nt))∧(∀nq,MvN W l E g (((wq.setCell ⟨W.heap.size,x,none⟩ (.int .i64 ((id:Nat):Int))).setCell ⟨W.heap.size+1,x,none⟩ (.string (bsA nt))).drewN nq) (k+1))∧lastN E g l (k+1)=lastN E g l k∧(⟨(wantT E g l k).toArray⟩:ByteArray)++⟨#[60,108,105,35]⟩++⟨(itoa ((id:Nat):Int)).toArray⟩++bsA nt++⟨#[62,35]⟩++⟨(itoa ((id:Int)+1)).toArray⟩++⟨#[32,39,107]⟩++⟨(itoa ((x:Nat):Int)).toArray⟩++⟨#[39,60,47,108,105,62]⟩=⟨(wantT E g l (k+1)).toArray⟩) ∧
  (¬ 0<id→(wq.setCell ⟨W.heap.size,x,none⟩ (.int .i64 ((lastN E g l k:Int)+1))).cell? ⟨W.heap.size,x,none⟩=some (.int .i64 ((lastN E g l k:Int)+1))∧(∀nq,MvN W l E g ((wq.setCell ⟨W.heap.size,x,none⟩ (.int .i64 ((lastN E g l k:Int)+1))).drewN nq) (k+1))∧lastN E g l (k+1)=lastN E g l k+2∧(⟨(wantT E g l k).toArray⟩:ByteArray)++⟨#[60,108,105,35]⟩++⟨(itoa ((lastN E g l k:Int)+1)).toArray⟩++⟨#[62,35]⟩++⟨(itoa ((lastN E g l k:Int)+1+1)).toArray⟩++⟨#[32,39,107]⟩++⟨(itoa ((x:Nat):Int)).toArray⟩++⟨#[39,60,47,108,105,62]⟩=⟨(wantT E g l (k+1)).toArray⟩)
theorem mv_step {w:World}{ab:Nat}{way:Bool}{W:World}{i:Nat}{l:List Nat}{E:List Ent}{g gi gn:Nat}{vad:Option Addr}{vcap:Nat}(hM:MvM w ab way W i l E g gi gn (.slice vad l.length vcap))(hi:i<20){wq:World}{k:Nat}(h:MvN W l E g wq k)(hk:k<l.length):mvStep w ab way W i l E g gi gn vad vcap wq k:=by
 obtain⟨gv,vcap',hv,c1,c2,hc,cur,hcur⟩:=owns_cell hM.row hk
 cases hv
 have hx:=hM.hl.lt _ (List.getElem_mem hk)
 have hgr:=hM.gr
 have hs:=h.bel.size
 have q1:=(h.bel.block gi (block_lt hM.ids)).trans hM.ids
 have q2:=(h.bel.block gn (block_lt hM.nts)).trans hM.nts
 have l1:=block_lt hM.ids
 have l2:=block_lt hM.nts
 have hid:idOf E l[k]≤1000000:=by
  unfold idOf
  split
  ·rename_i e he
   have:=hM.ok.pos e (fdE_mem he).1
   omega
  ·omega
 have hnt:(ntOf E l[k]).length≤7:=by
  unfold ntOf
  split
  ·rename_i e he
   have:=hM.ok.pos e (fdE_mem he).1
   unfold ntT
   split
   ·simp
   ·rename_i t ht
    have:=this.2.2 t ht
    simp
    omega
  ·simp
 refine⟨gv,l[k],idOf E l[k],ntOf E l[k],rfl,c1,c2,hx,hid,hnt,?_,?_,?_,frozen_of h.nx _,fun hp=>?_,fun hp=>?_⟩
 ·exact Below.cellv h.bel hc
 ·rw[cell_of q1,idC_get E hx]
 ·exact⟨_,(cell_of h.nx l[k]).trans (idC_get _ hx)⟩
 ·obtain⟨n1,n2,n3⟩:=MvN.old hM h hk hp
  have p1:(wq.setCell ⟨W.heap.size,l[k],none⟩ (.int .i64 ((idOf E l[k]:Nat):Int))).heap[W.heap.size+1]?=_:=(Below.heap_setCell wq ⟨W.heap.size,l[k],none⟩ (.int .i64 ((idOf E l[k]:Nat):Int)) (W.heap.size+1) (by show W.heap.size+1≠W.heap.size;omega)).trans h.kp
  have p2:(wq.setCell ⟨W.heap.size,l[k],none⟩ (.int .i64 ((idOf E l[k]:Nat):Int))).heap[gn]?=_:=(Below.heap_setCell wq ⟨W.heap.size,l[k],none⟩ (.int .i64 ((idOf E l[k]:Nat):Int)) gn (by show gn≠W.heap.size;omega)).trans q2
  have p3:(wq.setCell ⟨W.heap.size,l[k],none⟩ (.int .i64 ((idOf E l[k]:Nat):Int))).heap[gi]?=_:=(Below.heap_setCell wq ⟨W.heap.size,l[k],none⟩ (.int .i64 ((idOf E l[k]:Nat):Int)) gi (by show gi≠W.heap.size;omega)).trans q1
  refine⟨by rw[cell_of p2,ntC_get E hx],⟨_,(cell_of p1 l[k]).trans (ntC_get _ hx)⟩,frozen_of p1 _,?_,?_,n1,n2,?_⟩
  ·rw[cell_of ((Below.heap_setCell _ ⟨W.heap.size+1,l[k],none⟩ (.string (bsA (ntOf E l[k]))) gi (by show gi≠W.heap.size+1;omega)).trans p3),idC_get E hx]
  ·rw[cell_of (set_block (j:=l[k]) p1 (.string (bsA (ntOf E l[k]))))]
   simp[ntC,hx]
  ·rw[n3]
   apply ByteArray.ext
   simp[bsA]
 ·obtain⟨n1,n2,n3⟩:=MvN.new hM h hk hp
  have e1:((lastN E g l k:Int)+1)=((lastN E g l k+1:Nat):Int):=by omega
  have e2:((lastN E g l k:Int)+1+1)=((lastN E g l k+1+1:Nat):Int):=by omega
  rw[e2,e1]
  refine⟨?_,n1,n2,?_⟩
  ·rw[cell_of (set_block (j:=l[k]) h.nx (.int .i64 ((lastN E g l k+1:Nat):Int)))]
   simp[idC,hx]
  ·rw[n3]
   apply ByteArray.ext
   simp
theorem Moved_any (L:List (List Int))(way:Int)(sv:Value)(w:World)(E:Nat→Addr)(G:G0 w E)(hw:In64 way)(hin:∀r∈L,∀z∈r,In64 z)(h:RowsAt w sv L):
  Calls prog 5 #[sv,.int .i64 way] w fun e w'=>e=.returned (.bool true)∧Below w.heap.size w w':=by
 obtain⟨ad,cap,rfl,hc1,hc2,hcell⟩:=h
 have CK:=known_ok w E G.er G.fl G.nu G.sz
 have CP:Hid (∀X,Calls prog 10 #[.int .i64 way,.int .i64 2] X fun e w'=>∃(b:Bool) (z:Int),e=.returned (.int .i64 z)∧w'=X∧Hid (∀X,Calls prog 15 #[.int .i64 z] X fun e w'=>e=.returned (.string (kyB2 b))∧w'=X)):=fun X=>(pick_any way 2 X hw (by omega) (by omega)).mono fun e w' hp=>by
  have hl:=pickA_lt (c:=way) (n:=2) (by omega)
  generalize pickA way 2=k at *
  rcases k with _ | _ | k
  ·exact⟨false,0,hp.1,hp.2,fun X=>keyed_any false X⟩
  ·exact⟨true,1,hp.1,hp.2,fun X=>keyed_any true X⟩
  ·omega
 have CN:Hid (∀b X,Below w.heap.size w X→Calls prog 14 #[.string (kyB2 b)] X fun e w2=>∃ab,e=.returned (.tuple #[.pointer (some ⟨ab,0,none⟩),.nilIface]) ∧
   Calls prog 16 #[.pointer (some ⟨ab,0,none⟩)] ((w2.alloc (.cells (idC []) 3)).alloc (.cells (ntC []) 9)) fun e w3=>e=.returned .nilIface ∧
   Calls prog 17 #[.pointer (some ⟨ab,0,none⟩)] w3 fun e w4=>e=.returned (.string ⟨#[60,117,108,35,49,62,60,47,117,108,62]⟩)∧MvI w ab b w4 0 [] 1 w2.heap.size (w2.heap.size+1)):=fun b X hX=>by
  refine (mv_start b X E (G.below hX)).mono fun e w2 ⟨ab,he,C⟩=>⟨ab,he,C.mono fun e w3 ⟨he3,C3⟩=>⟨he3,C3.mono fun e w4 ⟨he4,hI⟩=>⟨he4,?_⟩⟩⟩
  exact⟨hX.trans (hI.bel.mono hX.size),hI.ky,hI.ids,hI.nts,by have:=hI.hab;have:=hX.size;omega,hI.gr,hI.ok,hI.keys⟩
 unfold maxLen at hc2
 go_enter func5,ntmps5
 go_wp2_with (first
  |(go_at_call 8;refine CK.mono ?_;rintro e w1 ⟨rfl,hb1⟩;clear CK;have CN1:Hid _:=fun b=>CN.out b _ hb1;clear CN hb1)
  |(go_at_call 10;refine (CP.out _).mono ?_;rintro e w0 ⟨b,z,rfl,rfl,CY⟩;clear CP)
  |(go_at_call 15;refine (CY.out _).mono ?_;rintro e w0 ⟨rfl,rfl⟩;clear CY)
  |(go_at_call 14;refine (CN1.out b).mono ?_;rintro e w2 ⟨ab,rfl,CF⟩;clear CN1)
  |(go_at_call 16;refine CF.mono ?_;rintro e w3 ⟨rfl,CT⟩;clear CF)
  |(go_at_call 17;refine CT.mono ?_;rintro e w4 ⟨rfl,hI⟩;have ST:Hid _:=hI;clear CT hI))
 have IN:Hid (∀wr i E g gi gn,MvI w ab b wr i E g gi gn→i<L.length→i<20→∃ga oa sl,ad=some ⟨ga,oa,none⟩∧wr.cell? ⟨ga,oa+i,none⟩=some sl∧(∃a n c,sl=.slice a n c)∧Calls prog 18 #[sl] wr fun e w1=>∃(s:ByteArray) (l:List Nat) (vad:Option Addr) (vcap:Nat),e=.returned (.tuple #[.string s,.slice vad l.length vcap]) ∧
   Calls prog 19 #[.pointer (some ⟨ab,0,none⟩),.string s] w1 fun e w2=>e=.returned .nilIface ∧
   Calls prog 20 #[.pointer (some ⟨ab,0,none⟩),.int .i64 1] w2 fun e w3=>e=.returned (.int .i64 1) ∧
   Calls prog 16 #[.pointer (some ⟨ab,0,none⟩)] w3 fun e W=>e=.returned .nilIface∧MvM w ab b W i l E g gi gn (.slice vad l.length vcap)):=fun wr i E g gi gn hI hi h20=>by
  obtain⟨ga,oa,sl,e1,e2,e3⟩:=hcell i hi
  obtain⟨a,c,e4⟩:=e3.slice
  exact⟨ga,oa,sl,e1,Below.cellv hI.bel e2,⟨a,_,c,e4⟩,mv_round hI h20 (e3.below hI.bel) (hin _ (List.getElem_mem hi))⟩
 have DONE:Hid (∀wr i E g gi gn,MvI w ab b wr i E g gi gn→Below w.heap.size w wr):=fun wr i E g gi gn hI=>hI.bel
 have hci:(L.length:Int)≤(cap:Int):=by omega
 have hcm:(cap:Int)≤9223372036854775807:=by omega
 clear hcell hin G hw
 go_loopg [8,9,10,12] 20 (fun gh lv dv nv iv wr=>∃(i:Nat) (E:List Ent) (g gi gn:Nat),gh=20-i∧lv=.int .i64 ((g:Nat):Int)∧dv=.slice (some ⟨gi,0,none⟩) 12 12∧nv=.slice (some ⟨gn,0,none⟩) 12 12∧iv=.int .i64 ((i:Nat):Int)∧i≤20∧Aside (MvI w ab b wr i E g gi gn))
 case atStart=>exact⟨0,[],1,_,_,by omega,rfl,rfl,rfl,rfl,by omega,(show MvI w ab b _ 0 [] 1 _ _ from by simpa using ST.out)⟩
 case round =>
  obtain⟨i,E,g,gi,gn,rfl,rfl,rfl,rfl,rfl,hi,hI⟩:=hrel
  by_cases hlt:i<L.length
  ·by_cases h20:i<20
   ·obtain⟨ga,oa,sl,rfl,hcl,⟨sa,sn,sc,rfl⟩,CO⟩:=IN.out _ _ _ _ _ _ hI.out hlt h20
    have hii:(i:Int)<(L.length:Int):=by omega
    have hi20:(i:Int)<20:=by omega
    clear hI IN DONE ST
    go_wp2_with (first
     |(go_at_call 18;refine CO.mono ?_;rintro e w5 ⟨s,l,vad,vcap,rfl,CS⟩;clear CO)
     |(go_at_call 19;refine CS.mono ?_;rintro e w6 ⟨rfl,CP⟩;clear CS)
     |(go_at_call 20;refine CP.mono ?_;rintro e w7 ⟨rfl,CF⟩;clear CP)
     |(go_at_call 16;refine CF.mono ?_;rintro e W ⟨rfl,hM⟩;have HM:Hid _:=hM;clear CF hM))
    have STP:Hid (∀wq k,MvN W l E g wq k→k<l.length→mvStep w ab b W i l E g gi gn vad vcap wq k):=fun wq k hN hk=>mv_step HM.out h20 hN hk
    have WL:Hid (∀k,k≤l.length→(wantT E g l k).length≤900∧lastN E g l k≤400):=fun k hk=>by
     have hg:=HM.out.gr
     have:=want_len HM.out.hl HM.out.ok (by omega) hk
     omega
    have CNn:Hid (∀(n:Nat) X,n≤1000000000→Calls prog 9 #[.int .i64 ((n:Nat):Int)] X fun e w'=>e=.returned (.string ⟨(itoa ((n:Nat):Int)).toArray⟩)∧w'=X):=fun n X hn=>number_any (n:Int) X (by unfold In64;omega)
    have NL:Hid (∀z:Int,0≤z→z≤1000000000→((itoa z).length:Int)≤21):=fun z h1 h2=>by have:=itoa_length_le z (by omega) (by omega);omega
    have hl9:(l.length:Int)≤9:=by have:=HM.out.hl.len;omega
    have e0:lastN E g l 0=g:=rfl
    have MS:Hid (MvN W l E g ((W.alloc (.cells (idC []) 3)).alloc (.cells (ntC []) 9)) 0):=mvn_start W l E g
    go_loopg [8,20,21] l.length (fun gh lv wv kv wq=>∃k:Nat,gh=l.length-k∧lv=.int .i64 ((lastN E g l k:Nat):Int)∧wv=.string ⟨(wantT E g l k).toArray⟩∧kv=.int .i64 ((k:Nat):Int)∧k≤l.length∧Aside (MvN W l E g wq k))
    case atStart=>exact⟨0,by omega,rfl,rfl,rfl,Nat.zero_le _,(show MvN W l E g _ 0 from MS.out)⟩
    case round =>
     obtain⟨k,rfl,rfl,rfl,rfl,hk,hN⟩:=hrel
     obtain⟨hwl,hll⟩:=WL.out k hk
     have hwli:((wantT E g l k).length:Int)≤900:=by omega
     have hlli:((lastN E g l k:Nat):Int)≤400:=by omega
     by_cases hkl:k<l.length
     ·obtain⟨gv,x,id,nt,rfl,v1,v2,hx,hid,hnt,d1,d2,⟨u3,d3⟩,d4,OLD,NEW⟩:=STP.out wr k hN.out hkl
      have hki:(k:Int)<(l.length:Int):=by omega
      have hxi:(x:Int)<12:=by omega
      have v1i:(l.length:Int)≤(vcap:Int):=by omega
      have v2i:(vcap:Int)≤9223372036854775807:=by omega
      have hidi:(id:Int)≤1000000:=by omega
      have CX:Hid (∀X,_):=fun X=>CNn.out x X (by omega)
      have nx:=NL.out (x:Int) (by omega) (by omega)
      clear STP hN WL MS
      by_cases hp:0<id
      ·obtain⟨o1,⟨u2,o2⟩,o3,o4,o5,o6,o7,o8⟩:=OLD hp
       have hpi:(0:Int)<(id:Int):=by omega
       have O6:Hid _:=o6
       have O7:Hid _:=o7
       have O8:Hid _:=o8
       clear OLD NEW o6 o7 o8 hp
       have CI:Hid (∀X,_):=fun X=>CNn.out id X (by omega)
       have CJ:Hid (∀X,Calls prog 9 #[.int .i64 ((id:Int)+1)] X fun e w'=>e=.returned (.string ⟨(itoa ((id:Int)+1)).toArray⟩)∧w'=X):=fun X=>number_any ((id:Int)+1) X (by unfold In64;omega)
       have nid:=NL.out (id:Int) (by omega) (by omega)
       have njd:=NL.out ((id:Int)+1) (by omega) (by omega)
       have hnti:((bsA nt).size:Int)≤7:=by show ((nt.toArray).size:Int)≤7;simp;omega
       clear CNn NL hnt
       generalize bsA nt=nb at *
       go_wp2_with fail
       go_quiet ((go_at_call 9;first | with_reducible exact Calls.quiet_of_same (CI.out _) | with_reducible exact Calls.quiet_of_same (CJ.out _) | with_reducible exact Calls.quiet_of_same (CX.out _)))
       all_goals (go_wp2_with fail)
       all_goals
        go_roundg (l.length-(k+1))
        case measure=>omega
        case rel=>exact⟨k+1,rfl,by rw[O7.out],by rw[←O8.out],by go_num,by omega,(show MvN W l E g _ (k+1) from O6.out _)⟩
      ·obtain⟨o1,o6,o7,o8⟩:=NEW hp
       have hpi:¬ (0:Int)<(id:Int):=by omega
       have O6:Hid _:=o6
       have O7:Hid _:=o7
       have O8:Hid _:=o8
       clear OLD NEW o6 o7 o8 hp
       have CI:Hid (∀X,Calls prog 9 #[.int .i64 ((lastN E g l k:Int)+1)] X fun e w'=>e=.returned (.string ⟨(itoa ((lastN E g l k:Int)+1)).toArray⟩)∧w'=X):=fun X=>number_any ((lastN E g l k:Int)+1) X (by unfold In64;omega)
       have CJ:Hid (∀X,Calls prog 9 #[.int .i64 ((lastN E g l k:Int)+1+1)] X fun e w'=>e=.returned (.string ⟨(itoa ((lastN E g l k:Int)+1+1)).toArray⟩)∧w'=X):=fun X=>number_any ((lastN E g l k:Int)+1+1) X (by unfold In64;omega)
       have nid:=NL.out ((lastN E g l k:Int)+1) (by omega) (by omega)
       have njd:=NL.out ((lastN E g l k:Int)+1+1) (by omega) (by omega)
       clear CNn NL hnt
       go_wp2_with fail
       go_quiet ((go_at_call 9;first | with_reducible exact Calls.quiet_of_same (CI.out _) | with_reducible exact Calls.quiet_of_same (CJ.out _) | with_reducible exact Calls.quiet_of_same (CX.out _)))
       all_goals (go_wp2_with fail)
       all_goals
        go_roundg (l.length-(k+1))
        case measure=>omega
        case rel=>exact⟨k+1,rfl,by rw[O7.out];go_num,by rw[←O8.out],by go_num,by omega,(show MvN W l E g _ (k+1) from O6.out _)⟩
     ·have hke:k=l.length:=by omega
      subst hke
      have CT:=mv_tree HM.out h20 hN.out
      have hLn:=HM.out.hl.len
      have CPI:Hid (∀X,0<l.length→Calls prog 10 #[.int .i64 ((i:Nat):Int),.int .i64 ((l.length:Nat):Int)] X fun e w'=>e=.returned (.int .i64 ((pickA (i:Int) l.length:Nat):Int))∧w'=X):=fun X h0=>pick_any (i:Int) l.length X (by unfold In64;omega) h0 (by omega)
      have CNi:Hid (∀X,_):=fun X=>CNn.out i X (by omega)
      have nil:=NL.out (i:Int) (by omega) (by omega)
      have hki:¬ ((l.length:Nat):Int)<((l.length:Nat):Int):=by omega
      have SCR:Hid (∀wr' , MvT w ab b wr' (i+1) l (nxt E g (l.map keyB)).1 (lastN E g l l.length) W.heap.size (W.heap.size+1) (.slice vad l.length vcap)→0<l.length→∃gv x,vad=some ⟨gv,0,none⟩∧l.length≤vcap∧vcap≤9223372036854775807∧pickA (i:Int) l.length<l.length∧x<12∧wr'.cell? ⟨gv,pickA (i:Int) l.length,none⟩=some (.int .i64 ((x:Nat):Int))∧∀X p,Below wr'.heap.size wr' X→X.heap[p]?=some (.cells #[.int .i64 ((pickA (i:Int) l.length:Nat):Int)] 3)→Calls prog 21 #[.pointer (some ⟨ab,0,none⟩),.slice (some ⟨p,0,none⟩) 1 1,.string ((⟨#[110]⟩:ByteArray)++⟨(itoa ((i:Nat):Int)).toArray⟩)] X fun e w3=>e=.returned .nilIface∧(∃u,w3.cell? ⟨W.heap.size+1,x,none⟩=some u)∧w3.frozen? ⟨W.heap.size+1,x,none⟩=false∧MvI w ab b (w3.setCell ⟨W.heap.size+1,x,none⟩ (.string ((⟨#[33,39,110]⟩:ByteArray)++⟨(itoa ((i:Nat):Int)).toArray⟩++⟨#[39]⟩))) (i+1) (notE (nxt E g (l.map keyB)).1 (pickA (i:Int) l.length) (110::itoa ((i:Nat):Int))) (lastN E g l l.length) W.heap.size (W.heap.size+1)):=fun wr' hT h0=>by
       have hj:=pickA_lt (c:=(i:Int)) h0
       obtain⟨gv,vcap',hv,c1,c2,hc,_⟩:=owns_cell hT.row hj
       cases hv
       exact⟨gv,l[pickA (i:Int) l.length],rfl,c1,c2,hj,hT.hl.lt _ (List.getElem_mem hj),hc,fun X p hX hp=>mv_scr hT h20 hj hX hp⟩
      clear STP hN MS CNn NL HM WL
      by_cases h0:0<l.length
      ·have h0i:(0:Int)<((l.length:Nat):Int):=by omega
       have CPJ:Hid (∀X,_):=fun X=>CPI.out X h0
       clear CPI
       go_wp2_with (first
        |(go_at_call 17;refine CT.mono ?_;rintro e w8 ⟨rfl,hT⟩;obtain⟨gv,x,rfl,v1,v2,hj,hx,hcx,CSC⟩:=SCR.out _ hT h0;have CS2:Hid _:=CSC;clear CT hT SCR CSC)
        | fail)
       have v1i:(l.length:Int)≤(vcap:Int):=by omega
       have v2i:(vcap:Int)≤9223372036854775807:=by omega
       have hxi:(x:Int)<12:=by omega
       generalize pickA (i:Int) l.length=j at *
       have hji:(j:Int)<(l.length:Int):=by omega
       go_wp2_with (first
        |(go_at_call 10;refine (CPJ.out _).mono ?_;rintro e w9 ⟨rfl,rfl⟩)
        |(go_at_call 9;refine (CNi.out _).mono ?_;rintro e w9 ⟨rfl,rfl⟩)
        |(go_at_call 21;refine (CS2.out _ _ (below1 _ _) (heap_alloc_new _ _)).mono ?_;rintro e w10 ⟨rfl,⟨u9,s1⟩,s2,hIn⟩;have HI:Hid _:=hIn;clear CS2 hIn))
       go_roundg (20-(i+1))
       case measure=>omega
       case rel=>exact⟨i+1,_,_,_,_,rfl,rfl,rfl,rfl,by go_num,by omega,(show MvI w ab b _ (i+1) _ _ _ _ from HI.out)⟩
      ·have h0i:¬ (0:Int)<((l.length:Nat):Int):=by omega
       clear SCR CPI CNi
       go_wp2_with (first
        |(go_at_call 17;refine CT.mono ?_;rintro e w8 ⟨rfl,hT⟩;have HT:Hid _:=hT.next;clear CT hT))
       go_roundg (20-(i+1))
       case measure=>omega
       case rel=>exact⟨i+1,_,_,_,_,rfl,rfl,rfl,rfl,by go_num,by omega,(show MvI w ab b _ (i+1) _ _ _ _ from HT.out)⟩
   ·have hii:(i:Int)<(L.length:Int):=by omega
    have hi20:¬ (i:Int)<20:=by omega
    have FI:Hid _:=DONE.out _ _ _ _ _ _ hI.out
    clear hI IN DONE ST
    go_wp2_with fail
    go_ret
    exact⟨rfl,FI.out⟩
  ·have hii:¬ (i:Int)<(L.length:Int):=by omega
   have FI:Hid _:=DONE.out _ _ _ _ _ _ hI.out
   clear hI IN DONE ST
   go_wp2_with fail
   go_ret
   exact⟨rfl,FI.out⟩
end Go.Proofs.YtifhgjpglicjbaaGreatDoor
