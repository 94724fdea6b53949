/-
  The program: the arguments read: readAll.
-/
import Derived.Test.YtifhgjpglicjbaaGreatDoorFaC
import Derived.Test.YtifhgjpglicjbaaGreatDoorVaI
import Derived.Test.YtifhgjpglicjbaaGreatDoorReA
import Derived.Test.YtifhgjpglicjbaaGreatDoorRdA
import Derived.Test.YtifhgjpglicjbaaGreatDoorReN
import Derived.Test.YtifhgjpglicjbaaGreatDoorFrT
import Derived.Test.YtifhgjpglicjbaaGreatDoorFsN
import Derived.Deep.RegionLawGrows
import Derived.Lib.SliceRun
import Derived.Deep.Upon
set_option maxHeartbeats 8000000
set_option maxRecDepth 8000
namespace Go.Proofs.YtifhgjpglicjbaaGreatDoor
open Go.Proofs.Tryz
open Go.RowKit Go.Lib
attribute [local go_sem ↓] Go.wp_at_zero Go.wp_at_succ
structure RL (w wr:World)(ad:Option Addr)(cap:Nat)(vs:List PV)(cs:List Value):Prop where
 own:wr.ownsRow w.heap.size 74 1 (.slice ad vs.length cap) vs.length cs
 val:VLs wr (fun b=>w.heap.size≤b∧some b≠(Value.slice ad vs.length cap).ownBlock) vs cs
 bel:Below w.heap.size w wr
theorem RL.start (w:World):RL w w none 0 [] []:=⟨World.ownsRow_nil _ _ _ _,by rw[VLs],Below.refl _ _⟩
theorem RL.step {w wr w4 w6:World}{ad:Option Addr}{cap:Nat}{vs:List PV}{cs:List Value}{o:Obj}{v:PV}{x v':Value}(h:RL w wr ad cap vs cs)(hb:Below wr.heap.size wr w4)
  (hv:VL w4 (wr.heap.size<·) v x) (hown:w6.ownsRow w.heap.size 74 1 v' (vs.length+1) (cs++[x])) (hgrow:(w4.alloc o).grownBy w6 (Value.slice ad vs.length cap).ownBlock) (hob:v'.ownBlock=(Value.slice ad vs.length cap).ownBlock∨v'.ownBlock=some (w4.alloc o).heap.size) :
  ∃ad' cap',v'=.slice ad' (vs++[v]).length cap'∧RL w w6 ad' cap' (vs++[v]) (cs++[x]):=by
 obtain⟨ad',cap',rfl⟩:=owns_slice hown
 have sz:=hb.size
 have sz0:=h.bel.size
 have hlt:∀g,(Value.slice ad vs.length cap).ownBlock=some g→w.heap.size≤g∧g<wr.heap.size:=fun g e=>h.own.lt g e
 have el:(vs++[v]).length=vs.length+1:=by simp
 refine⟨ad',cap',by rw[el],?_,?_,?_⟩
 ·rw[el];exact hown
 ·rw[el]
  exact vrow_step (fun g hg=>Nat.lt_of_lt_of_le (hlt g hg).2 sz) (h.val.below hb) (hv.weaken fun g hg=>⟨by have hg:wr.heap.size<g:=hg;omega,fun e=>by have:=(hlt g e.symm).2;have hg:wr.heap.size<g:=hg;omega⟩) hgrow hob
 ·refine⟨?_,?_,?_,?_,?_⟩
  ·rw[hgrow.os];exact hb.os.trans h.bel.os
  ·rw[hgrow.tape];exact hb.tape.trans h.bel.tape
  ·rw[hgrow.output];exact hb.output.trans h.bel.output
  ·have h1:=hgrow.size
   simp at h1
   omega
  ·intro g hg
   rw[hgrow.block g (by simp;omega) (fun e=>by have:=(hlt g e.symm).1;omega),alloc_old _ _ _ (by omega),hb.block g (by omega)]
   exact h.bel.block g hg
def raPost (w:World)(o:Option (List PV))(e:Ending)(w':World):Prop :=
 Below w.heap.size w w'∧((∃vs sl cs,o=some vs∧e=.returned (.tuple #[sl,.nilIface])∧SegAt w' (w.heap.size≤·) 74 1 sl vs.length cs∧VLs w' (w.heap.size≤·) vs cs)∨(o=none∧∃u f,FltW f∧e=.returned (.tuple #[u,f])))
theorem ra_ok {w wr:World}{o:Option (List PV)}{ad:Option Addr}{cap:Nat}{vs:List PV}{cs:List Value}(h:RL w wr ad cap vs cs)(ho:o=some vs):raPost w o (.returned (.tuple #[.slice ad vs.length cap,.nilIface])) wr :=
 ⟨h.bel,Or.inl ⟨vs,_,cs,ho,rfl,(SegAt.of_row (RowAt.of_owns h.own)).weaken fun _g hg=>hg,h.val.weaken fun _g hg=>hg.1⟩⟩
theorem readAll_any (sv:Value)(bs:List ByteArray)(w:World)(ha:ArgsAt w sv bs)(hbl:bs.length≤2000000)(hbz:∀b∈bs,b.size≤1000000000000)(hG:NumG w)(h15:15≤w.heap.size):
  Calls prog 27 #[sv] w (raPost w (readAllV (bs.map (·.data.toList)))):=by
 obtain⟨R,hR⟩:∃R,R=readAllV (bs.map (·.data.toList)):=⟨_,rfl⟩
 rw[←hR]
 obtain⟨ad,cap,rfl,hc1,hc2,_,hcell⟩:=ha
 unfold maxLen at hc2
 have HR:Aside (R=readAllV (bs.map (·.data.toList))):=hR
 clear hR
 have hbi:((bs.length:Nat):Int)≤2000000:=by omega
 go_enter func27,ntmps27
 go_wp2_with fail
 go_loopg [4,11] bs.length (fun gh av iv wr=>∃(j:Nat) (vs:List PV) (cs:List Value) (ad':Option Addr) (cap':Nat),gh=bs.length-j∧iv=.int .i64 ((j:Nat):Int)∧av=.slice ad' vs.length cap'∧j≤bs.length∧Aside (vs.length=j)∧RL w wr ad' cap' vs cs∧Aside (R=contA vs (readAllV ((bs.map (·.data.toList)).drop j))))
 case atStart =>
  refine⟨0,[],[],none,0,by omega,rfl,rfl,Nat.zero_le _,(show _=_ from rfl),RL.start w,?_⟩
  show _=_
  rw[List.drop_zero,HR.out]
  cases readAllV (bs.map (·.data.toList)) with
  | none=>rfl
  | some x=>rfl
 case round =>
  obtain⟨j,vs,cs,ad',cap',rfl,rfl,rfl,hj,hvl,rl,hP⟩:=hrel
  have hvb:vs.length≤2000000:=by have:=hvl.out;omega
  by_cases hjl:j<bs.length
  ·obtain⟨g,o,rfl,hcq⟩:=hcell j hjl
   have hbj:=hbz bs[j] (List.getElem_mem hjl)
   have hltm:j<(bs.map (·.data.toList)).length:=by simpa using hjl
   have hmq:(bs.map (·.data.toList))[j]=bs[j].data.toList:=by simp
   have c0:=Below.cellv rl.bel hcq
   have hsz:=rl.bel.size
   have CE:=Read_any bs[j] wr hbj (hG.below rl.bel) (by omega)
   have NO:Hid (readV bs[j].data.toList=none→R=none):=fun h=>by
    rw[HR.out]
    exact readAll_none hltm (by rw[←HR.out];exact hP.out) (by rw[hmq];exact h)
   have GO:Hid (∀v,readV bs[j].data.toList=some v→Aside (R=contA (vs++[v]) (readAllV ((bs.map (·.data.toList)).drop (j+1))))):=fun v h=>by
    show _=_
    rw[HR.out]
    exact readAll_some hltm (by rw[←HR.out];exact hP.out) (by rw[hmq];exact h)
   have hji:(j:Int)<((bs.length:Nat):Int):=by omega
   clear hcell hbz hP hmq hltm
   generalize bs[j]=bj at *
   go_wp2_with fail
   refine CE.mono ?_
   rintro e w4 ⟨hb4,⟨v,x,ho,rfl,hv⟩ | ⟨ho,z,b,rfl⟩⟩
   ·obtain⟨tv,xv,rfl⟩:=hv.iface
    have own4:w4.ownsRow w.heap.size 74 1 (.slice ad' vs.length cap') vs.length cs:=owns_keep rl.own fun q hq=>hb4.block q (rl.own.lt q hq).2
    have hsz4:w.heap.size≤w4.heap.size:=Nat.le_trans hsz hb4.size
    have STH:Hid (∀w6 v' o,_):=fun w6 v' o=>RL.step (w6:=w6) (v':=v') (o:=o) rl hb4 hv
    have HM:=GO.out _ ho
    clear CE NO GO hv ho rl
    go_wp2_with (at_builtin;obtain⟨i0,hi,hz0,hz1,hz2⟩:=info_parts Tryz.infoVVal;refine wpList_append_own_at _ rfl _ _ 70 rfl w.heap.size 74 i0 .nilIface 1 16 underlying70 hi hz0 hz1 hz2 rfl (by decide) _ _ _ rfl (own4.alloc _) ⟨w4.heap.size,0,none⟩ 1 1 [.iface tv xv] rfl rfl (cell_one_new _ _ _) (fun x hx=>by simp at hx;subst hx;rfl) (by unfold maxLen;omega) (by omega) (by simp;omega) ?_;intro v' w6 hown' hgrow hnil hob;clear hi hz0 hz1 hz2)
    go_roundg (bs.length-(j+1))
    case measure=>omega
    case rel =>
     obtain⟨ad2,cap2,rfl,rl2⟩:=STH.out _ _ _ hown' hgrow hob
     exact⟨j+1,_,_,ad2,cap2,rfl,by go_num,rfl,by omega,(by show _=_;have:=hvl.out;simp;omega),rl2,HM⟩
   ·have FIN:Hid (∀X u nb i,Below w4.heap.size w4 X→raPost w R (.returned (.tuple #[u,inV nb i z b])) X):=fun X u nb i hX=>⟨(rl.bel.trans (hb4.mono rl.bel.size)).trans (hX.mono (Nat.le_trans rl.bel.size hb4.size)),Or.inr ⟨NO.out ho,_,_,Or.inr ⟨_,_,_,_,rfl⟩,rfl⟩⟩
    clear CE NO GO ho rl
    go_wp2_with fail
    go_ret2
    exact FIN.out _ _ _ _ (by first | exact Below.refl _ _ | exact below1 _ _)
  ·have hjj:j=bs.length:=by omega
   have hji:¬ (j:Int)<((bs.length:Nat):Int):=by omega
   have HO:Hid (R=some vs):=by
    rw[HR.out]
    exact readAll_end (by rw[List.length_map,←hjj,←HR.out];exact hP.out)
   clear hcell hbz hP
   subst hjj
   go_wp2_with fail
   go_ret2
   exact ra_ok rl HO.out
def ErrIs (E:Nat→Addr)(c p:Nat)(f:Value):Prop:=(c=0∧p=0∧f=.nilIface)∨(c=8∧p=0∧FltW f)∨(1≤c∧c≤7∧f=wrongV p (E c))
def prPost (E:Nat→Addr)(R:List UInt8×Nat×Nat)(w:World)(e:Ending)(w':World):Prop :=
 Below w.heap.size w w'∧∃f,e=.returned (.tuple #[.string ⟨R.1.toArray⟩,f])∧ErrIs E R.2.1 R.2.2 f
theorem pr_flt {E:Nat→Addr}{R:List UInt8×Nat×Nat}{w w':World}{f:Value}(hR:R=([],8,0))(hb:Below w.heap.size w w')(hf:FltW f):prPost E R w (.returned (.tuple #[.string ⟨#[]⟩,f])) w':=by
 subst hR
 exact⟨hb,f,rfl,Or.inr (Or.inl ⟨rfl,rfl,hf⟩)⟩
theorem ArgsAt.below {w w':World}{sv:Value}{bs:List ByteArray}(h:ArgsAt w sv bs)(hb:Below w.heap.size w w'):ArgsAt w' sv bs:=by
 obtain⟨ad,cap,h1,h2,h3,h4,h5⟩:=h
 exact⟨ad,cap,h1,h2,h3,h4,fun i hi=>by
  obtain⟨g,o,e,hc⟩:=h5 i hi
  exact⟨g,o,e,Below.cellv hb hc⟩⟩
theorem FltV.w {f:Value}(h:FltV f):FltW f:=Or.inl h
theorem stReckon_any (s nb:ByteArray)(sv:Value)(bs:List ByteArray)(w:World)(E:Nat→Addr)(hE:Errs w E)(hG:FltG w)(hN:NumG w)(h15:15≤w.heap.size){ts:List Tok}(hs:s.size≤maxLen)(hts:s.size≤2000→IsToks s.data.toList 0 ts)(ha:ArgsAt w sv bs)(hbl:bs.length≤2000000)(hbz:∀b∈bs,b.size≤1000000000000):
  Calls prog 11 #[.string s,.string nb,sv] w (prPost E (reckR s.size ts nb.data.toList (bs.map (·.data.toList))) w):=by
 have CR:=read_any s w E hE h15 hs hts
 obtain⟨RR,hRR⟩:∃RR,RR=reckR s.size ts nb.data.toList (bs.map (·.data.toList)):=⟨_,rfl⟩
 rw[←hRR]
 have ha':=ha
 obtain⟨ad,cap,rfl,hc1,hc2,hbs,hcell⟩:=ha'
 unfold maxLen at hc2
 cases hA:answer s.size ts with
 | some x =>
  obtain⟨c,p⟩:=x
  obtain⟨h1,h7⟩:=answer_code hA
  have e2:RR=([],c,p):=by rw[hRR];unfold reckR;rw[hA]
  have cr2:Calls prog 25 #[.string s] w fun e w'=>(∃ad n cap,e=.returned (.tuple #[.agg #[.slice ad n cap],wrongV p (E c)]))∧Below w.heap.size w w':=CR.mono fun e w' ⟨⟨ad,n,cap,h,_⟩,hb⟩=>⟨⟨ad,n,cap,by rw[h,hA];rfl⟩,hb⟩
  have FIN:Hid (∀X,Below w.heap.size w X→prPost E RR w (.returned (.tuple #[.string ⟨#[]⟩,wrongV p (E c)])) X):=fun X hX=>by
   rw[e2]
   exact⟨hX,_,rfl,Or.inr (Or.inr ⟨h1,h7,rfl⟩)⟩
  generalize E c=aE at *
  clear CR hRR e2 hcell ha hE hts hA
  go_enter func11,ntmps11
  go_wp2_with (go_at_call 25;refine cr2.mono ?_;rintro e w1 ⟨⟨rad,rn,rcap,rfl⟩,hb1⟩)
  go_ret2
  exact FIN.out _ (by first | exact hb1 | exact hb1.alloc hb1.size _)
 | none =>
  have hs2:s.size≤2000:=by
   unfold answer at hA
   split at hA
   ·cases hA
   ·omega
  have hC:chk s.size (pProg (ts.length+1) ts)=none:=by
   unfold answer at hA
   rw[if_neg (by omega)] at hA
   exact hA
  cases hR:pProg (ts.length+1) ts with
  | err c a=>rw[hR] at hC;simp only[chk] at hC;cases hC
  | ok fns rest =>
   rw[hR] at hC
   have hP:ProgOk fns:=progOk_of (hts hs2) (by rw[len_data];omega) hR hC
   have hU:UniqF fns:=(nmAll_uniq fns [] (by
    simp only[chk] at hC
    split at hC
    ·cases hC
    ·assumption)).2
   have E2:Aside (RR=match readAllV (bs.map (·.data.toList)) with | none=>([],8,0) | some vs=>match reckP fns nb.data.toList vs with | none=>([],8,0) | some v=>(wrV v,0,0)):=by
    show _=_
    rw[hRR]
    unfold reckR
    rw[hA,hR]
    rfl
   have cr2:Calls prog 25 #[.string s] w fun e w'=>(∃rad rn rcap,e=.returned (.tuple #[.agg #[.slice rad rn rcap],.nilIface])∧ProgAt w' (w.heap.size≤·) (.slice rad rn rcap) fns)∧Below w.heap.size w w':=CR.mono fun e w' ⟨⟨ad,n,cap,h,h2⟩,hb⟩=>⟨⟨ad,n,cap,by rw[h,hA];rfl,h2 fns rest hR hA⟩,hb⟩
   have hbi:((bs.length:Nat):Int)≤2000000:=by omega
   clear CR hRR hE hts hA hC hR
   go_enter func11,ntmps11
   go_wp2_with (go_at_call 25;refine cr2.mono ?_;rintro e w1 ⟨⟨rad,rn,rcap,rfl,hpr⟩,hb1⟩)
   have bX:Below w.heap.size w (w1.alloc (Obj.cells #[.slice rad rn rcap] 57)):=hb1.alloc hb1.size _
   have cb:(w1.alloc (Obj.cells #[.slice rad rn rcap] 57)).cell? ⟨w1.heap.size,0,none⟩=some (.slice rad rn rcap):=by simp
   have hpX:=hpr.below (below1 w1 (Obj.cells #[.slice rad rn rcap] 57))
   have CF:=mfind_any (mb:=(w1.alloc (Obj.cells #[.slice rad rn rcap] 57)).heap.size) ((hpX.keep (w':=w1.alloc (Obj.cells #[.slice rad rn rcap] 57)) fun _ _ _=>rfl).weaken fun q hq=>hq.2) nb bs.length (by omega)
   generalize w1.alloc (Obj.cells #[.slice rad rn rcap] 57)=X at *
   have CA:Hid (∀Z,Below X.heap.size X Z→Calls prog 27 #[.slice ad bs.length cap] Z (raPost Z (readAllV (bs.map (·.data.toList))))):=fun Z hZ=>by
    have hwZ:=bX.trans (hZ.mono bX.size)
    exact readAll_any _ bs Z (ha.below hwZ) hbl hbz (hN.below hwZ) (Nat.le_trans h15 hwZ.size)
   have CN:Hid (∀(Z:World) (D0:Nat→Prop) (vs:List PV) (cs:List Value) (sl:Value),Below X.heap.size X Z→SegAt Z D0 74 1 sl vs.length cs→VLs Z D0 vs cs→readAllV (bs.map (·.data.toList))=some vs→Calls prog 28 #[.agg #[.slice rad rn rcap],.string nb,sl] Z (vePost (fun _=>True) Z (reckP fns nb.data.toList vs))):=fun Z D0 vs cs sl hZ h1 h2 h3=>by
    have hwZ:=bX.trans (hZ.mono bX.size)
    obtain⟨g1,g2⟩:=readAllV_fine h3
    rw[List.length_map] at g1
    exact named_any hP hU Z _ D0 nb vs cs sl rad rn rcap (hpX.below hZ) (hG.below hwZ) (Nat.le_trans h15 hwZ.size) h1 h2 g2 (by omega)
   have CW:Hid (∀(Z:World) (v:PV) (x:Value) (vs:List PV),Below X.heap.size X Z→VL Z (fun _=>True) v x→readAllV (bs.map (·.data.toList))=some vs→reckP fns nb.data.toList vs=some v→Calls prog 29 #[x] Z fun e w'=>e=.returned (.string ⟨(wrV v).toArray⟩)∧prPost E RR w (.returned (.tuple #[.string ⟨(wrV v).toArray⟩,.nilIface])) w'):=fun Z v x vs hZ hv h1 h2=>by
    have hwZ:=bX.trans (hZ.mono bX.size)
    have hf:=reckP_fine hP (readAllV_fine h1).2 h2
    refine (Write_any _ v x Z hv hf.1 (by have:=hf.2;omega) (hN.below hwZ).p10).mono fun e w' ⟨g1,g2⟩=>⟨g1,hwZ.trans (g2.mono hwZ.size),.nilIface,?_,?_⟩
    ·rw[E2.out,h1]
     simp only[h2]
    ·rw[E2.out,h1]
     simp only[h2]
     exact Or.inl ⟨rfl,rfl,rfl⟩
   have N1:Hid (findF fns nb.data.toList bs.length=none→RR=([],8,0)):=fun h=>by
    rw[E2.out]
    cases hv:readAllV (bs.map (·.data.toList)) with
    | none=>rfl
    | some vs =>
     have hl:=(readAllV_fine hv).1
     rw[List.length_map] at hl
     have:reckP fns nb.data.toList vs=none:=by
      rw[reckP_eq hU]
      unfold evCA
      rw[hl,h]
      rfl
     simp only[this]
   have N2:Hid (readAllV (bs.map (·.data.toList))=none→RR=([],8,0)):=fun h=>by rw[E2.out,h]
   have N3:Hid (∀vs,readAllV (bs.map (·.data.toList))=some vs→reckP fns nb.data.toList vs=none→RR=([],8,0)):=fun vs h1 h2=>by rw[E2.out,h1];simp only[h2]
   clear hpX hpr hcell E2 cr2 ha hb1 hbs hbz
   refine CF.mono ?_
   rintro e w2 ⟨hb2,⟨f,fnb,fa,fad,fcap,fbs,ftb,fyb,ho,_,rfl,_,_,_⟩ | ⟨ho,rfl⟩⟩
   ·clear CF ho N1
    go_wp2_with fail
    have bZ:=hb2.alloc hb2.size (Obj.cells #[.string fnb,.int .i64 ((fa:Nat):Int),.slice fad fbs.length fcap,.iface ftb fyb] 66)
    refine (CA.out _ bZ).mono ?_
    rintro e w3 ⟨hb3,⟨vs,sl,cs,hV,rfl,hseg,hvs⟩ | ⟨hV,u,fl,hfl,rfl⟩⟩
    ·have bX3:Below X.heap.size X w3:=bZ.trans (hb3.mono bZ.size)
     have cb3:=Below.cellv bX3 cb
     have C4:=CN.out w3 _ vs cs sl bX3 hseg hvs hV
     obtain⟨sad,scap,rfl⟩:=hseg.slice
     clear CA CN hseg hvs N2 bZ hb3
     go_wp2_with fail
     refine C4.mono ?_
     rintro e w4 ⟨hb4,⟨v,x,hO,rfl,hv⟩ | ⟨hO,u,fl,hfl,rfl⟩⟩
     ·have bX4:=bX3.trans (hb4.mono bX3.size)
      have C5:=CW.out w4 v x vs bX4 hv hV hO
      obtain⟨tx,yx,rfl⟩:=hv.iface
      clear CW C4 hv hO N3
      generalize wrV v=T at *
      go_wp2_with (go_at_call 29;refine C5.mono ?_;rintro e w5 ⟨rfl,hp5⟩)
      go_ret2
      exact hp5
     ·have HO:Hid (RR=([],8,0)):=N3.out _ hV hO
      have HF:Hid (FltV fl):=hfl
      obtain⟨tf,yf,rfl⟩:=hfl.iface
      have bX4:=bX3.trans (hb4.mono bX3.size)
      have bw4:=bX.trans (bX4.mono bX.size)
      clear CW C4 hO N3 hfl
      go_wp2_with fail
      go_ret2
      exact pr_flt HO.out bw4 HF.out.w
    ·have HO:Hid (RR=([],8,0)):=N2.out hV
     have HF:Hid (FltW fl):=hfl
     obtain⟨tf,yf,rfl⟩:=hfl.iface
     have bX3:Below X.heap.size X w3:=bZ.trans (hb3.mono bZ.size)
     have bw3:=bX.trans (bX3.mono bX.size)
     clear CA CN CW N2 N3 hV hfl
     go_wp2_with fail
     go_ret2
     exact pr_flt HO.out bw3 HF.out
   ·have HO:Hid (RR=([],8,0)):=N1.out ho
    have bw2:=bX.trans (hb2.mono bX.size)
    clear CF CA CN CW N1 N2 N3 ho
    go_wp2_with fail
    go_ret2
    exact pr_flt HO.out (by first | exact bw2 | exact bw2.alloc bw2.size _) (flt_why _).w
def initB:ByteArray:=⟨#[105,110,105,116]⟩
def newA (m:PV)(lo:Nat):PA:=⟨m,[],false,none,0,0,0,0,0,fun _=>False,fun _=>none,fun _=>False,(lo≤·)⟩
def newP (w:World)(fns:List Fn)(m:PV)(e:Ending)(w':World):Prop :=
 ∃ab c,e=.returned (.tuple #[.pointer (some ⟨ab,0,none⟩),.nilIface])∧w.heap.size≤ab∧Below w.heap.size w w'∧AppAt w' ab fns 0 c (newA m w.heap.size)
theorem seg0 (w:World)(D:Nat→Prop)(t:TypeId):SegAt w D t 1 (.slice none 0 0) 0 []:=⟨rfl,Or.inl ⟨⟨none,0,rfl⟩,rfl⟩⟩
theorem new_at {w X:World}{fns:List Fn}{m:PV}{x:Value}{pa:Option Addr}{pn pc:Nat}(hb:Below w.heap.size w X)(h15:15≤w.heap.size)(hp:ProgAt X (w.heap.size≤·) (.slice pa pn pc) fns)(hv:VL X TT m x)(hf:Fine m)(hG:FltG X)(hN:NumG X):
  newP w fns m (.returned (.tuple #[.pointer (some ⟨X.heap.size,0,none⟩),.nilIface])) (X.alloc (.cells #[.int .i32 0,.int .u32 0,.slice pa pn pc,x,.slice none 0 0,.bool false,.nilIface,.int .i64 0,.int .i64 0,.int .i64 0,.int .i64 0,.int .i64 0,.int .i64 0] 92)):=by
 have hs:=hb.size
 have ha:Below X.heap.size X (X.alloc (.cells #[.int .i32 0,.int .u32 0,.slice pa pn pc,x,.slice none 0 0,.bool false,.nilIface,.int .i64 0,.int .i64 0,.int .i64 0,.int .i64 0,.int .i64 0,.int .i64 0] 92)):=(Below.refl _ _).alloc (Nat.le_refl _) _
 refine⟨X.heap.size,⟨0,pa,pn,pc,x,.slice none 0 0,0⟩,rfl,hs,hb.trans (ha.mono hs),heap_alloc_new _ _,?_⟩
 refine⟨?_,(hv.below ha).weaken fun q _=>⟨(fun e=>nomatch e),id⟩,⟨[],World.ownsRow_nil _ _ _ _,by show VLs _ _ [] [];rw[VLs]⟩,trivial,hG.below ha,hN.same fun q hq=>ha.block q (by omega),by show 15≤X.heap.size;omega,hf,(fun v hv=>by simp[newA] at hv),(fun n hn=>nomatch hn),(fun n hn=>nomatch hn),by show 0≤12;omega,⟨(fun q hq=>hq.elim),id,(fun n hn=>nomatch hn),(fun q hq=>nomatch hq),fun q hq=>hq.elim⟩⟩
 exact (hp.keep (w':=X.alloc _) fun q _ hq=>ha.block q hq).weaken fun q hq=>⟨hq.2,hq.1⟩
theorem New_ok {fns:List Fn}(hP:ProgOk fns)(hU:UniqF fns)(s:ByteArray)(w:World)(E:Nat→Addr)(hE:Errs w E)(hG:FltG w)(hN:NumG w)(h15:15≤w.heap.size)(hs:s.size≤2000){ts:List Tok}(hts:IsToks s.data.toList 0 ts)(hans:answer s.size ts=none){rest:List Tok}(hp:pProg (ts.length+1) ts=.ok fns rest)(m:PV)(hm:reckP fns initB.data.toList []=some m):
  Calls prog 14 #[.string s] w (newP w fns m):=by
 have CR:Calls prog 25 #[.string s] w fun e w'=>(∃ad n cap,e=.returned (.tuple #[.agg #[.slice ad n cap],.nilIface])∧ProgAt w' (w.heap.size≤·) (.slice ad n cap) fns)∧Below w.heap.size w w':=by
  refine (read_any s w E hE h15 (by unfold maxLen;omega) (fun _=>hts)).mono fun e w' h=>?_
  obtain⟨⟨ad,n,cap,h1,h2⟩,hb⟩:=h
  rw[hans] at h1
  exact⟨⟨ad,n,cap,h1,h2 fns rest hp hans⟩,hb⟩
 have hfm:=reckP_fine hP (fun v hv=>by simp at hv) hm
 have CN:Hid (∀X pa pn pc,Below w.heap.size w X→ProgAt X (w.heap.size≤·) (.slice pa pn pc) fns→Calls prog 28 #[.agg #[.slice pa pn pc],.string initB,.slice none 0 0] X fun e w'=>∃tx xx,e=.returned (.tuple #[.iface tx xx,.nilIface])∧VL w' TT m (.iface tx xx)∧Below X.heap.size X w'):=fun X pa pn pc hX hpX=>by
  have hXs:=hX.size
  refine (named_any hP hU X TT TT initB [] [] (.slice none 0 0) pa pn pc (hpX.weaken fun _ _=>trivial) (hG.below hX) (by omega) (seg0 X TT _) (by rw[VLs]) (fun v hv=>by simp at hv) (by simp)).mono fun e w' hq=>?_
  rw[hm] at hq
  obtain⟨hb,⟨v',x,ho,he,hv⟩ | ⟨ho,_⟩⟩:=hq
  ·cases ho
   obtain⟨tx,xx,rfl⟩:=hv.iface
   exact⟨tx,xx,he,hv,hb⟩
  ·cases ho
 have FIN:Hid (∀X x pa pn pc,Below w.heap.size w X→ProgAt X (w.heap.size≤·) (.slice pa pn pc) fns→VL X TT m x→newP w fns m (.returned (.tuple #[.pointer (some ⟨X.heap.size,0,none⟩),.nilIface])) (X.alloc (.cells #[.int .i32 0,.int .u32 0,.slice pa pn pc,x,.slice none 0 0,.bool false,.nilIface,.int .i64 0,.int .i64 0,.int .i64 0,.int .i64 0,.int .i64 0,.int .i64 0] 92))):=fun X x pa pn pc hX hpX hv=>new_at hX h15 hpX hv hfm (hG.below hX) (hN.same fun q hq=>hX.block q (by omega))
 have vv:initB=⟨#[105,110,105,116]⟩:=rfl
 rw[vv] at CN
 clear hE hG hN hts hans hp hm hP hU hfm vv
 go_enter func14,ntmps14
 go_wp2_with (go_at_call 25;refine CR.mono ?_;rintro e w1 ⟨⟨ad,n,cap,rfl,hpa⟩,hb1⟩)
 have bA:Below w1.heap.size w1 (w1.alloc (.cells #[.slice ad n cap] 57)):=(Below.refl _ _).alloc (Nat.le_refl _) _
 have q0:(w1.alloc (.cells #[.slice ad n cap] 57)).heap[w1.heap.size]?=some (.cells #[.slice ad n cap] 57):=heap_alloc_new _ _
 have bX:=hb1.trans (bA.mono hb1.size)
 have pX:=hpa.below bA
 generalize w1.alloc (.cells #[.slice ad n cap] 57)=X0 at *
 have CNx:=CN.out X0 ad n cap bX pX
 have FI0:Hid (∀Y tx xx,Below X0.heap.size X0 Y→VL Y TT m (.iface tx xx)→Y.cell? ⟨w1.heap.size,0,none⟩=some (.slice ad n cap)∧newP w fns m (.returned (.tuple #[.pointer (some ⟨Y.heap.size,0,none⟩),.nilIface])) (Y.alloc (.cells #[.int .i32 0,.int .u32 0,.slice ad n cap,.iface tx xx,.slice none 0 0,.bool false,.nilIface,.int .i64 0,.int .i64 0,.int .i64 0,.int .i64 0,.int .i64 0,.int .i64 0] 92))):=fun Y tx xx hY hv=>by
  refine⟨?_,FIN.out Y _ ad n cap (bX.trans (hY.mono bX.size)) (pX.below hY) hv⟩
  unfold World.cell?
  rw[hY.block _ (block_lt q0),q0]
  rfl
 clear CN FIN CR hpa q0 bA bX pX
 refine CNx.mono ?_
 rintro e w2 ⟨tx,xx,rfl,hv,hb2⟩
 obtain⟨d0,hfin⟩:=FI0.out w2 tx xx hb2 hv
 have FI:Hid _:=hfin
 clear hfin hv CNx FI0
 go_wp2_with fail
 go_ret2
 first
  | exact FI.out
  |(obtain⟨ab,c,he,m1,m2,m3⟩:=FI.out;exact⟨ab,c,by simpa using he,m1,m2,m3⟩)
def updB:ByteArray:=⟨#[117,112,100,97,116,101]⟩
theorem AppAt.model {w:World}{ab:Nat}{fns:List Fn}{lk:Int}{c:AC}{a:PA}{m:PV}{x:Value}(h:AppAt w ab fns lk c a)(hv:VL w (NQ c.qv a.foe) m x)(hf:Fine m):AppAt (w.setCell ⟨ab,3,none⟩ x) ab fns lk { c with xm:=x } { a with model:=m }∧Below ab w (w.setCell ⟨ab,3,none⟩ x):=by
 obtain⟨s1,s2,s3⟩:=h.set 3 x
 exact⟨⟨s1,⟨s2.prog,hv.tyKeep (RK.setCell (j:=3) h.blk (by decide) x).kv,s2.queue,s2.shown,s2.flt,s2.num,s2.hm,hf,s2.fq,s2.ok,s2.nm,s2.hq,⟨s2.out.keep,s2.out.sA,s2.out.sN,s2.out.sQ,s2.out.fo⟩⟩⟩,s3⟩
def hdlP (w:World)(ab:Nat)(fns:List Fn)(lk:Int)(c:AC)(a:PA)(m:PV)(e:Ending)(w':World):Prop :=
 ∃x,e=.returned (.tuple #[])∧Below ab w w'∧AppAt w' ab fns lk { c with xm:=x } { a with handled:=true,model:=m }
theorem handle_ok {fns:List Fn}(hP:ProgOk fns)(hU:UniqF fns){w:World}{ab:Nat}{lk:Int}{c:AC}{a:PA}(h:AppAt w ab fns lk c a)(v:PV)(xv:Value)(hv:VL w (NQ c.qv a.foe) v xv)(hfv:Fine v)(m:PV)(e1:reckP fns updB.data.toList [v,a.model]=some m):
  Calls prog 39 #[.pointer (some ⟨ab,0,none⟩),xv] w (hdlP w ab fns lk c a m):=by
 have hm:=h.st.hm
 have h1:AppAt (w.setCell ⟨ab,5,none⟩ (.bool true)) ab fns lk c { a with handled:=true }:=h.upd 5 _ rfl rfl rfl rfl rfl
 have b1:Below ab w (w.setCell ⟨ab,5,none⟩ (.bool true)):=(h.set 5 _).2.2
 have c5:w.cell? ⟨ab,5,none⟩=some (.bool a.handled):=h.cell 5
 have f5:=h.frozen 5
 have hv1:VL (w.setCell ⟨ab,5,none⟩ (.bool true)) (NQ c.qv a.foe) v xv:=hv.tyKeep (RK.setCell (j:=5) h.blk (by decide) _).kv
 obtain⟨W1,hW1⟩:∃W1,w.setCell ⟨ab,5,none⟩ (.bool true)=W1:=⟨_,rfl⟩
 rw[hW1] at h1 b1 hv1
 have hD:=NQ.new h1.st
 have hlt:=h1.lt
 have hfs:∀u∈[v,a.model],Fine u:=fun u hu=>by
  simp at hu
  rcases hu with rfl | rfl
  ·exact hfv
  ·exact h.st.fm
 have hfm:=reckP_fine hP hfs e1
 have CN:Hid (∀X (sl:Value),Below W1.heap.size W1 X→SegAt X (NQ c.qv a.foe) 74 1 sl 2 [xv,c.xm]→Calls prog 28 #[.agg #[.slice c.pa c.pn c.pc],.string updB,sl] X fun e w'=>∃tx xx,e=.returned (.tuple #[.iface tx xx,.nilIface])∧VL w' (NQ c.qv a.foe) m (.iface tx xx)∧Below W1.heap.size W1 w'):=fun X sl hX hs=>by
  have hXa:=h1.below hX
  refine (named_D hP hU X (PD ab a) (NQ c.qv a.foe) updB [v,a.model] [xv,c.xm] sl c.pa c.pn c.pc hXa.st.prog hXa.st.flt (by have:=hX.size;omega) hs (VLs.append (VLs.one hXa.st.model) (VLs.one (hv1.below hX))) hfs (by simp) (fun g hg=>hD g (by have:=hX.size;omega))).mono fun e w' hp=>?_
  rw[e1] at hp
  obtain⟨hb,⟨v',x,ho,he,hv⟩ | ⟨ho,_⟩⟩:=hp
  ·cases ho
   obtain⟨tx,xx,rfl⟩:=hv.iface
   exact⟨tx,xx,he,hv,hX.trans (hb.mono hX.size)⟩
  ·cases ho
 have SEG:Hid (∀X,Below W1.heap.size W1 X→SegAt (X.alloc (.cells #[xv,c.xm] 74)) (NQ c.qv a.foe) 74 1 (.slice (some ⟨X.heap.size,0,none⟩) 2 2) 2 [xv,c.xm]):=fun X hX =>
  ⟨rfl,Or.inr ⟨X.heap.size,0,2,#[xv,c.xm],rfl,hD _ (by have:=hX.size;omega),heap_alloc_new _ _,Nat.le_refl _,by unfold maxLen;omega,by simp,by simp⟩⟩
 obtain⟨tm,ym,hxm⟩:=h.st.model.iface
 obtain⟨tv,yv,hxv⟩:=hv.iface
 have C2:Hid (W1.cell? ⟨ab,2,none⟩=some (.slice c.pa c.pn c.pc)∧W1.cell? ⟨ab,3,none⟩=some c.xm):=⟨h1.cell 2,h1.cell 3⟩
 have FIN:Hid (∀Y x,Below W1.heap.size W1 Y→VL Y (NQ c.qv a.foe) m x→Y.frozen? ⟨ab,3,none⟩=false∧(∃u,Y.cell? ⟨ab,3,none⟩=some u)∧hdlP w ab fns lk c a m (.returned (.tuple #[])) (Y.setCell ⟨ab,3,none⟩ x)):=fun Y x hY hv=>by
  have hYa:=h1.below hY
  obtain⟨p1,p2⟩:=hYa.model hv hfm
  exact⟨hYa.frozen 3,⟨_,hYa.cell 3⟩,x,rfl,(b1.trans (hY.mono (by omega))).trans p2,p1⟩
 rw[hxm,hxv] at SEG CN
 rw[hxm] at C2
 rw[hxv]
 obtain⟨d2,d3⟩:=C2.out
 have vv:updB=⟨#[117,112,100,97,116,101]⟩:=rfl
 rw[vv] at CN
 have CNa:Calls prog 28 #[.agg #[.slice c.pa c.pn c.pc],.string ⟨#[117,112,100,97,116,101]⟩,.slice (some ⟨W1.heap.size,0,none⟩) 2 2] (W1.alloc (.cells #[.iface tv yv,.iface tm ym] 74)) _:=CN.out _ _ ((Below.refl _ _).alloc (Nat.le_refl _) _) (SEG.out W1 (Below.refl _ _))
 have CNb:Calls prog 28 #[.agg #[.slice c.pa c.pn c.pc],.string ⟨#[117,112,100,97,116,101]⟩,.slice (some ⟨W1.heap.size,0,none⟩) 2 2] (W1.drew.alloc (.cells #[.iface tv yv,.iface tm ym] 74)) _:=CN.out _ _ ((Below.refl W1.heap.size W1).drew.alloc (Nat.le_refl _) _) (SEG.out W1.drew (Below.refl _ _).drew)
 have HW:Hid (w.setCell ⟨ab,5,none⟩ (.bool true)=W1):=hW1
 clear h h1 b1 hv hv1 hD hfs hfm e1 hxm hxv C2 CN SEG hW1 vv
 go_enter func39,ntmps39
 go_upto_region 1 with fail
 rw[HW.out]
 clear HW c5 f5
 go_cut [4,5] (fun gv ev wx=>∃tx xx,gv=.iface tx xx∧ev=.nilIface∧VL wx (NQ c.qv a.foe) m (.iface tx xx)∧Below W1.heap.size W1 wx)
 case first =>
  go_region_with (go_at_call 28;(first | refine CNa.mono ?_ | refine CNb.mono ?_);rintro e w2 ⟨tx,xx,rfl,hvx,hb2⟩)
  all_goals (go_wp2_with fail)
  all_goals go_meet
  all_goals exact⟨tx,xx,rfl,rfl,hvx,hb2⟩
 case rest =>
  obtain⟨tx,xx,rfl,rfl,hvx,hb2⟩:=hcut
  obtain⟨g3,⟨u3,k3⟩,hfin⟩:=FIN.out _ _ hb2 hvx
  have FI:Hid _:=hfin
  clear hfin hvx CNa CNb FIN d2 d3
  go_wp2_with fail
  obtain⟨x1,_,m2,m3⟩:=FI.out
  exact bodyPost_end (v:=.tuple #[]) (by simp[results,results39,go_sem]) rfl ⟨x1,rfl,m2,m3⟩
theorem setCells_block {g:Nat}{t:TypeId}:∀(vs:List Value) (o:Nat) (w:World) (cur:Array Value),w.heap[g]?=some (.cells cur t)→∃cur',(w.setCells g o vs).heap[g]?=some (.cells cur' t)∧cur'.size=cur.size∧(∀j,j<o→cur'[j]?=cur[j]?)∧∀j,j<vs.length→o+j<cur.size→cur'[o+j]?=vs[j]?
 | [],o,w,cur,h=>⟨cur,h,rfl,fun _ _=>rfl,fun j hj=>by simp at hj⟩
 | v::r,o,w,cur,h=>by
  obtain⟨cur',h1,h2,h3,h4⟩:=setCells_block r (o+1) (w.setCell ⟨g,o,none⟩ v) _ (set_block h v)
  refine⟨cur',h1,by rw[h2];simp,fun j hj=>?_,fun j hj hs=>?_⟩
  ·rw[h3 j (by omega),Array.getElem?_setIfInBounds]
   simp
   omega
  ·cases j with
   | zero =>
    rw[Nat.add_zero,h3 o (by omega),Array.getElem?_setIfInBounds]
    simp
    omega
   | succ j =>
    have:=h4 j (by simpa using hj) (by simp;omega)
    rw[show o+(j+1)=o+1+j by omega,this]
    simp
theorem delete_ok (base:Nat)(qv x:Value)(xs:List Value)(w:World)(h:w.ownsRow base 74 1 qv (xs.length+1) (x::xs))(h1:∀u∈xs,u.oneCell'=true)(hl:xs.length≤1000)(_hbase:base≤w.heap.size):
  Calls prog 38 #[qv,.int .i64 0,.int .i64 1] w fun e w'=>∃v',e=.returned v'∧w'.ownsRow base 74 1 v' xs.length xs∧w.grownBy w' qv.ownBlock∧v'.ownBlock=qv.ownBlock:=by
 rcases (RowAt.of_owns h).2 with ⟨rfl,hz⟩ | ⟨g,cap,cur,rfl,hg,hh,hc,hm,hsz,htk⟩
 ·omega
 ·have hli:((xs.length:Nat):Int)≤1000:=by omega
  unfold maxLen at hm
  rw[Nat.mul_one] at hsz htk
  have hcell:∀j,w.cell? ⟨g,j,none⟩=cur[j]?:=fun j=>by unfold World.cell?;rw[hh];rfl
  obtain⟨A,hA,hcells⟩:∃A:Addr,(if cap=1 then some (⟨g,0,none⟩:Addr) else some ⟨g,1,none⟩)=some A∧Hid (∀j u,xs[j]?=some u→w.cell? (A.add j)=some u):=by
   by_cases hc1:cap=1
   ·have:xs=[]:=List.length_eq_zero_iff.1 (by omega)
    exact⟨_,by rw[if_pos hc1],fun j u hu=>by rw[this] at hu;simp at hu⟩
   ·refine⟨_,by rw[if_neg hc1],fun j u hu=>?_⟩
    have e1:(⟨g,1,none⟩:Addr).add j=⟨g,1+j,none⟩:=by cases j<;>simp[Addr.add]
    have hj:j<xs.length:=(List.getElem?_eq_some_iff.1 hu).1
    rw[e1,hcell,←Array.getElem?_toList]
    have e2:(cur.toList.take (xs.length+1))[1+j]?=(x::xs)[1+j]?:=by rw[htk]
    rw[List.getElem?_take,if_pos (by omega),Nat.add_comm 1 j,List.getElem?_cons_succ,hu] at e2
    rw[Nat.add_comm 1 j]
    exact e2
  obtain⟨i0,hi,hz0,hz1,hz2⟩:=info_parts Tryz.infoVVal
  have hsp:Hid (∀j,j<xs.length→(w.cell? ⟨g,0+0*1+j,none⟩).isSome=true∧w.frozen? ⟨g,0+0*1+j,none⟩=false):=fun j hj=>by
   rw[show 0+0*1+j=j by omega,hcell]
   exact⟨by simp;omega,by unfold World.frozen?;rw[hh];rfl⟩
  have hb0:(0:Int)≤((xs.length:Nat):Int):=Int.natCast_nonneg _
  have hb1:(1:Int)≤((xs.length:Nat):Int)+1:=by omega
  have hxl:Hid (xs.length=xs.length*1):=(Nat.mul_one _).symm
  have h1c:Hid (∀u∈xs,u.oneCell'=true):=h1
  have hW:∃cur1,(w.drew.setCells g 0 xs).heap[g]?=some (.cells cur1 74)∧cur1.size=cur.size∧(∀j,j<0→cur1[j]?=cur[j]?)∧∀j,j<xs.length→0+j<cur.size→cur1[0+j]?=xs[j]?:=setCells_block xs 0 w.drew cur hh
  obtain⟨cur1,k1,k2,_,k4⟩:=hW
  have RC:(Builtin.clear_ #[70] 0 #[.slice (some ⟨g,xs.length,none⟩) 1 (cap-xs.length)]).run prog (w.drew.setCells g 0 xs)=.ok (.tuple #[]) ((w.drew.setCells g 0 xs).setCells g xs.length [.nilIface]):=by
   refine run_clear_slice (w.drew.setCells g 0 xs) 70 74 0 .nilIface underlying70 (fun w=>by kernel_rfl) rfl rfl g xs.length 1 (cap-xs.length) (by omega) (fun j hj=>?_) (fun j hj=>?_)
   ·obtain rfl:j=0:=by omega
    unfold World.cell?
    rw[Nat.add_zero]
    simp only[k1]
    show (cur1[xs.length]?).isSome=true
    simp
    omega
   ·unfold World.frozen?
    simp only[k1]
    rfl
  have FIN:Hid (((w.drew.setCells g 0 xs).setCells g xs.length [.nilIface]).ownsRow base 74 1 (.slice (some ⟨g,0,none⟩) xs.length cap) xs.length xs∧w.grownBy ((w.drew.setCells g 0 xs).setCells g xs.length [.nilIface]) (some g)):=by
   obtain⟨cur2,m1,m2,m3,m4⟩:=setCells_block [.nilIface] xs.length (w.drew.setCells g 0 xs) cur1 k1
   have hlt:g<w.heap.size:=block_lt hh
   have z1:∀(vs:List Value) (o:Nat) (X:World),(X.setCells g o vs).heap.size=X.heap.size:=fun vs=>by
    induction vs with
    | nil=>intro o X;rfl
    | cons v r ih=>intro o X;rw[World.setCells,ih];simp[World.setCell]
   have z2:∀(vs:List Value) (o:Nat) (X:World),(X.setCells g o vs).os=X.os∧(X.setCells g o vs).tape=X.tape∧(X.setCells g o vs).output=X.output:=fun vs=>by
    induction vs with
    | nil=>intro o X;exact⟨rfl,rfl,rfl⟩
    | cons v r ih=>intro o X;rw[World.setCells];exact ih _ _
   refine⟨⟨by simp,Or.inr ⟨g,cap,cur2,rfl,hg,m1,by omega,by unfold maxLen;omega,by omega,?_⟩⟩,?_⟩
   ·apply List.ext_getElem?
    intro j
    rw[List.getElem?_take]
    by_cases hj:j<xs.length*1
    ·rw[if_pos hj,Array.getElem?_toList,m3 j (by omega)]
     have:=k4 j (by omega) (by omega)
     rw[Nat.zero_add] at this
     exact this
    ·rw[if_neg hj,List.getElem?_eq_none (by omega)]
   ·have a1:=z2 [.nilIface] xs.length (w.drew.setCells g 0 xs)
    have a2:=z2 xs 0 w.drew
    refine⟨a1.1.trans a2.1,a1.2.1.trans a2.2.1,a1.2.2.trans a2.2.2,by rw[z1,z1];exact Nat.le_refl _,fun q hq hne=>?_⟩
    have hqg:q≠g:=fun e=>hne (by rw[e])
    rw[World.heap_setCells_other _ g _ _ (by rw[z1];exact hq) hqg]
    exact World.heap_setCells_other w.drew g _ _ hq hqg
  clear h1 htk h k1 k2 k4
  go_enter func38,ntmps38
  go_wp2_with fail
  go_region_law (refine step_append_room rfl (.tmp 22) (.tmp 25) 70 rfl 74 i0 1 underlying70 hi hz1 g 0 0 cap (by simp[Act.eval,Act.put]) A xs.length (cap-1) xs (by simp[Act.eval,Act.put]) hxl.out hcells.out h1c.out (by omega) hsp.out ?_)
  all_goals (go_wp2_with fail)
  all_goals go_ret
  all_goals exact⟨_,rfl,FIN.out.1,FIN.out.2,rfl⟩
end Go.Proofs.YtifhgjpglicjbaaGreatDoor
namespace Go.Proofs.YtifhgjpglicjbaaGreatDoor
open Go.Proofs.Tryz
open Go.RowKit Go.Lib
theorem AppAt.queue {w w':World}{ab:Nat}{fns:List Fn}{lk:Int}{c:AC}{a:PA}(h:AppAt w ab fns lk c a){v':Value}{cs':List Value}{q':List PV}(hg:w.grownBy w' c.qv.ownBlock)(hob:v'.ownBlock=c.qv.ownBlock∨v'.ownBlock=some w.heap.size)(own:w'.ownsRow (ab+1) 74 1 v' q'.length cs')(hvs:VLs w (NQ c.qv a.foe) q' cs')(hf:∀v∈q',Fine v)(hq:q'.length≤12):
  AppAt (w'.setCell ⟨ab,4,none⟩ v') ab fns lk { c with qv:=v' } { a with queue:=q' }∧Below ab w (w'.setCell ⟨ab,4,none⟩ v'):=by
 have hs:=h.st
 have hm:=hs.hm
 have hlt:=h.lt
 obtain⟨cs0,ow0,_⟩:=hs.queue
 have hO:∀q,q<w.heap.size→c.qv.ownBlock≠some q→w'.heap[q]?=w.heap[q]?:=fun q hq hn=>hg.block q hq fun e=>hn e.symm
 have hlow:∀q,q≤ab→w'.heap[q]?=w.heap[q]?:=fun q hq=>hO q (by omega) fun e=>by have:=(ow0.lt q e).1;omega
 have hS:∀t v n ys,SegAt w (NQ c.qv a.foe) t 1 v n ys→SegAt w' (NQ v' a.foe) t 1 v n ys:=fun t v n ys hs=>by
  refine (hs.keep (w':=w') fun q hq hlt=>hO q hlt hq.1).weaken fun q hq=>⟨?_,hq.1.2⟩
  rcases hob with h2 | h2
  ·show v'.ownBlock≠some q
   rw[h2];exact hq.1.1
  ·show v'.ownBlock≠some q
   rw[h2]
   intro e
   have:=hq.2
   simp at e
   omega
 have hT:∀t,t≠74→TyKeep t w w':=fun t ht q cur e=>by
  rw[hO q (block_lt e) fun he=>by
   obtain⟨cur2,h2⟩:=owns_block ow0 he
   rw[h2] at e
   cases e
   exact ht rfl]
  exact e
 have rkd:RKD w (NQ c.qv a.foe) w' (NQ v' a.foe):=⟨hS _,hT _ (by decide),hT _ (by decide),hS _,hT _ (by decide)⟩
 have hab:w'.heap[ab]?=some (.cells (appCells lk c a) 92):=(hlow ab (Nat.le_refl _)).trans h.blk
 have S0:AppS w' ab fns { c with qv:=v' } { a with queue:=q' }:=by
  refine⟨(hs.prog.keep fun q hq _=>hlow q (by have:q<ab:=hq.1;omega)).weaken fun q hq=>hq.1,hs.model.map (hS _),⟨cs',own,hvs.map (hS _)⟩,?_,hs.flt.same fun q hq=>hlow q (by omega),hs.num.same fun q hq=>hlow q (by omega),hm,hs.fm,hf,hs.ok,hs.nm,hq,?_⟩
  rotate_left
  ·refine⟨fun q hq=>⟨by have:=(hs.out.keep q hq).1;have:=hg.size;omega,(hO q (hs.out.keep q hq).1 fun e=>hs.out.sQ q e hq).trans (hs.out.keep q hq).2⟩,hs.out.sA,hs.out.sN,(fun q hq=>?_),fun q hq=>by have:=hs.out.fo q hq;have:=hg.size;omega⟩
   rcases hob with h2 | h2
   ·exact hs.out.sQ q (by rw[←h2];exact hq)
   ·intro e
    have:=(hs.out.keep q e).1
    rw[show v'.ownBlock=some q from hq] at h2
    cases h2
    omega
  have hsh:=hs.shown
  show OD w' (NQ v' a.foe) a.shown
  cases hn:a.shown with
  | none=>trivial
  | some n =>
   rw[hn] at hsh
   have hsh:AnD w (NQ c.qv a.foe) n:=hsh
   refine AnD.map rkd (fun b hb=>hO b (hsh.lt b hb) fun e=>?_) hsh
   obtain⟨cur2,h2⟩:=owns_block ow0 e
   obtain⟨c1,t,h4,h5⟩:=hsh.ty b hb
   rw[h2] at h4
   cases h4
   revert h5
   decide
 have ht2:Touch (·=ab) w' (w'.setCell ⟨ab,4,none⟩ v'):=(Touch.refl (·=ab) w').setCell (p:=⟨ab,4,none⟩) (Or.inl rfl) _
 have S1:=S0.turn hab ht2 (RK.setCell (j:=4) hab (by decide) v')
 refine⟨⟨?_,S1⟩,?_⟩
 ·rw[set_block (j:=4) hab]
  rfl
 ·refine⟨hg.os,hg.tape,hg.output,by have:=hg.size;simpa[World.setCell] using this,fun q hq=>?_⟩
  rw[ht2.block q (by have:=hg.size;omega) (by show ¬ q=ab;omega)]
  exact hlow q (by omega)
theorem AppAt.pop {w:World}{ab:Nat}{fns:List Fn}{lk:Int}{c:AC}{a:PA}(h:AppAt w ab fns lk c a){v:PV}{q:List PV}(hq:a.queue=v::q):
  ∃x xs,w.ownsRow (ab+1) 74 1 c.qv (xs.length+1) (x::xs)∧xs.length=q.length∧VL w (NQ c.qv a.foe) v x∧(∀u∈xs,u.oneCell'=true)∧∀w' v',w'.ownsRow (ab+1) 74 1 v' xs.length xs→w.grownBy w' c.qv.ownBlock→v'.ownBlock=c.qv.ownBlock →
   AppAt (w'.setCell ⟨ab,4,none⟩ v') ab fns lk { c with qv:=v' } { a with queue:=q }∧Below ab w (w'.setCell ⟨ab,4,none⟩ v')∧VL (w'.setCell ⟨ab,4,none⟩ v') (NQ v' a.foe) v x:=by
 obtain⟨cs,h1,h2⟩:=h.st.queue
 rw[hq] at h1 h2
 rw[VLs] at h2
 obtain⟨x,xs,rfl,hx,hxs⟩:=h2
 have hxl:xs.length=q.length:=by
  have:=h1.1
  simp at this
  exact this
 have hfq:=h.st.fq
 have hq12:=h.st.hq
 rw[hq] at hfq hq12
 refine⟨x,xs,by rw[hxl];exact h1,hxl,hx,fun u hu=>?_,fun w' v' own hg hob=>?_⟩
 ·obtain⟨j,hj,rfl⟩:=List.getElem_of_mem hu
  obtain⟨y,hy,hvy⟩:=hxs.at j (by omega)
  rw[List.getElem?_eq_getElem hj] at hy
  cases hy
  obtain⟨t,z,e⟩:=hvy.iface
  rw[e]
  rfl
 ·rw[hxl] at own
  have r:=h.queue hg (Or.inl hob) own hxs (fun v hv=>hfq v (by simp[hv])) (by simp at hq12;omega)
  refine⟨r.1,r.2,?_⟩
  have hm2:∀sl n ys,SegAt w (NQ c.qv a.foe) 74 1 sl n ys→SegAt (w'.setCell ⟨ab,4,none⟩ v') (NQ v' a.foe) 74 1 sl n ys:=fun sl n ys hs=>by
   have e1:SegAt w' (NQ v' a.foe) 74 1 sl n ys:=(hs.keep (w':=w') fun q hq hlt=>hg.block q hlt fun e=>hq.1 e.symm).weaken fun q hq=>⟨by rw[hob];exact hq.1.1,hq.1.2⟩
   refine e1.tyKeep (RK.setCell (j:=4) (c:=appCells lk c a) (t:=92) ?_ (by decide) v').kv
   have ow:=(h.st.queue).choose_spec.1
   have:=h.lt
   exact (hg.block ab this fun e=>by have:=(ow.lt ab e.symm).1;omega).trans h.blk
  exact hx.map hm2
end Go.Proofs.YtifhgjpglicjbaaGreatDoor
