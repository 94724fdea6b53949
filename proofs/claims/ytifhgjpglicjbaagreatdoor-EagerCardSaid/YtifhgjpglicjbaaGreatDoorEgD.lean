/-
  Eager.
-/
import Derived.Test.YtifhgjpglicjbaaGreatDoorKyD
import Derived.BigQuiet
set_option maxHeartbeats 1500000
set_option maxRecDepth 8000
namespace Go.Proofs.YtifhgjpglicjbaaGreatDoor
open Go.Proofs.Tryz
open Go.RowKit Go.Lib
attribute [local go_sem ↓] Go.wp_at_zero Go.wp_at_succ
theorem EgM.below {w wr wr':World}{M pA pB i:Nat}{l0:List Nat}{sl0:Value}{l:List Nat}{sl:Value}{s:EgP}{lz0:Nat}(h:EgM w wr M pA pB i l0 sl0 l sl s lz0)(hb:Below wr.heap.size wr wr'):EgM w wr' M pA pB i l0 sl0 l sl s lz0 :=
 ⟨h.bel.trans (hb.mono h.bel.size),h.st.below hb,owns_rows h.row0 (RowsKeep.of_below hb),owns_rows h.row (RowsKeep.of_below hb),h.hl,h.hl0,h.keys,h.ok,h.gr,h.fr,h.fl,h.lzb,h.q,h.sn,h.hab⟩
theorem Eager_any (L:List (List Int))(tp:List Int)(sv tv:Value)(w:World)(E:Nat→Addr)(G:G0 w E)(hin:∀r∈L,∀z∈r,In64 z)(h:RowsAt w sv L)(hint:∀z∈tp,In64 z)(ht:IntsAt w tv tp):
  Calls prog 6 #[sv,tv] w fun e w'=>e=.returned (.bool true)∧Below w.heap.size w w':=by
 obtain⟨ad,cap,rfl,hc1,hc2,hcell⟩:=h
 obtain⟨tad,tcap,rfl,tc1,tc2,tcell⟩:=ht
 have CK:=known_ok w E G.er G.fl G.nu G.sz
 have CY0:Hid (∀X,Calls prog 15 #[.int .i64 0] X fun e w'=>e=.returned (.string (kyB2 false))∧w'=X):=fun X=>keyed_any false X
 have CY1:Hid (∀X,Calls prog 15 #[.int .i64 1] X fun e w'=>e=.returned (.string (kyB2 true))∧w'=X):=fun X=>keyed_any true X
 have CN:Hid (∀X,Below w.heap.size w X→Calls prog 14 #[.string (kyB2 false)] X fun e w1=>∃pA,e=.returned (.tuple #[.pointer (some ⟨pA,0,none⟩),.nilIface]) ∧
   Calls prog 14 #[.string (kyB2 true)] w1 fun e w2=>∃pB,e=.returned (.tuple #[.pointer (some ⟨pB,0,none⟩),.nilIface])∧EgI w w2 pB pA pB 0 [] (.slice none 0 0) egS0 0):=fun X hX=>by
  refine (eg_start X E (G.below hX)).mono fun e w1 ⟨pA,he,C⟩=>⟨pA,he,C.mono fun e w2 ⟨pB,he2,hI⟩=>⟨pB,he2,?_⟩⟩
  exact⟨hX.trans (hI.bel.mono hX.size),hI.st,hI.row,hI.hl,hI.keys,hI.ok,hI.gr,hI.fr,hI.fl,hI.lzb,hI.q,by have:=hI.hab;have:=hX.size;omega⟩
 unfold maxLen at hc2 tc2
 go_enter func6,ntmps6
 go_wp2_with (first
  |(go_at_call 8;refine CK.mono ?_;rintro e w1 ⟨rfl,hb1⟩;clear CK;have CN1:=CN.out _ hb1;clear CN hb1)
  |(go_at_call 15;(first | with_reducible refine (CY0.out _).mono ?_ | with_reducible refine (CY1.out _).mono ?_);rintro e w0 ⟨rfl,rfl⟩)
  |(go_at_call 14;first
    |(refine CN1.mono ?_;rintro e w2 ⟨pA,rfl,CN2⟩;clear CN1)
    |(refine CN2.mono ?_;rintro e w3 ⟨pB,rfl,hI⟩;have ST:Hid _:=hI;clear CN2 hI)))
 have IN:Hid (∀wr i l0 sl0 s lz,EgI w wr pB pA pB i l0 sl0 s lz→i<L.length→i<20→∃ga oa sl,ad=some ⟨ga,oa,none⟩∧wr.cell? ⟨ga,oa+i,none⟩=some sl∧(∃a n c,sl=.slice a n c)∧Calls prog 18 #[sl] wr fun e w1=>∃(t T:ByteArray) (l:List Nat) (vad:Option Addr) (vcap:Nat),e=.returned (.tuple #[.string t,.slice vad l.length vcap]) ∧
   Calls prog 19 #[.pointer (some ⟨pA,0,none⟩),.string t] w1 fun e w2=>e=.returned .nilIface ∧
   Calls prog 19 #[.pointer (some ⟨pB,0,none⟩),.string t] w2 fun e w3=>e=.returned .nilIface ∧
   Calls prog 20 #[.pointer (some ⟨pA,0,none⟩),.int .i64 3] w3 fun e w4=>e=.returned (.int .i64 1) ∧
   Calls prog 20 #[.pointer (some ⟨pB,0,none⟩),.int .i64 3] w4 fun e w5=>e=.returned (.int .i64 1) ∧
   Calls prog 16 #[.pointer (some ⟨pA,0,none⟩)] w5 fun e w6=>e=.returned .nilIface ∧
   Calls prog 16 #[.pointer (some ⟨pB,0,none⟩)] w6 fun e w7=>e=.returned .nilIface ∧
   Calls prog 17 #[.pointer (some ⟨pA,0,none⟩)] w7 fun e w8=>e=.returned (.string T) ∧
   Calls prog 17 #[.pointer (some ⟨pB,0,none⟩)] w8 fun e w9=>e=.returned (.string T) ∧
   Calls prog 22 #[.pointer (some ⟨pA,0,none⟩)] w9 fun e wa=>e=.returned (.string t) ∧
   Calls prog 22 #[.pointer (some ⟨pB,0,none⟩)] wa fun e wb=>e=.returned (.string t)∧∃s',EgM w wb pB pA pB i l0 sl0 l (.slice vad l.length vcap) s' lz):=fun wr i l0 sl0 s lz hI hi h20=>by
  obtain⟨ga,oa,sl,e1,e2,e3⟩:=hcell i hi
  obtain⟨a,c,e4⟩:=e3.slice
  exact⟨ga,oa,sl,e1,Below.cellv hI.bel e2,⟨a,_,c,e4⟩,eg_round hI h20 (e3.below hI.bel) (hin _ (List.getElem_mem hi))⟩
 have END:Hid (∀wr i l sl s lz,EgI w wr pB pA pB i l sl s lz→Calls prog 24 #[.pointer (some ⟨pA,0,none⟩)] wr fun e w1=>∃a b:Int,e=.returned (.agg #[.int .i64 a,.int .i64 ((s.fl:Nat):Int),.int .i64 b,.int .i64 ((s.fr:Nat):Int),.int .i64 0]) ∧
   ∀X,X=w1.alloc (.cells #[.int .i64 a,.int .i64 ((s.fl:Nat):Int),.int .i64 b,.int .i64 ((s.fr:Nat):Int),.int .i64 0] 51)→Calls prog 24 #[.pointer (some ⟨pB,0,none⟩)] X fun e w2=>∃c d:Int,e=.returned (.agg #[.int .i64 c,.int .i64 ((s.fl:Nat):Int),.int .i64 d,.int .i64 ((s.fr:Nat):Int),.int .i64 ((lz:Nat):Int)]) ∧
    ∀Y,Y=w2.alloc (.cells #[.int .i64 c,.int .i64 ((s.fl:Nat):Int),.int .i64 d,.int .i64 ((s.fr:Nat):Int),.int .i64 ((lz:Nat):Int)] 51)→Y.cell? ⟨w1.heap.size,1,none⟩=some (.int .i64 ((s.fl:Nat):Int))∧Y.cell? ⟨w1.heap.size,3,none⟩=some (.int .i64 ((s.fr:Nat):Int))∧Y.cell? ⟨w1.heap.size,4,none⟩=some (.int .i64 0)∧Y.cell? ⟨w2.heap.size,1,none⟩=some (.int .i64 ((s.fl:Nat):Int))∧Y.cell? ⟨w2.heap.size,3,none⟩=some (.int .i64 ((s.fr:Nat):Int))∧Y.cell? ⟨w2.heap.size,4,none⟩=some (.int .i64 ((lz:Nat):Int))∧Below w.heap.size w Y):=fun wr i l sl s lz hI=>eg_end hI
 have ROW:Hid (∀wr i l sl s lz,EgI w wr pB pA pB i l sl s lz→(∃vad vcap,sl=.slice vad l.length vcap)∧l.length≤9∧lz≤9*i):=fun wr i l sl s lz hI=>⟨owns_slice hI.row,hI.hl.len,hI.lzb⟩
 have TAP:Hid (∀wr i l0 sl0 l sl s lz,EgM w wr pB pA pB i l0 sl0 l sl s lz→i<tp.length→∃g o,tad=some ⟨g,o,none⟩∧wr.cell? ⟨g,o+i,none⟩=some (.int .i64 (tp.getD i 0))∧∀X,Calls prog 10 #[.int .i64 (tp.getD i 0),.int .i64 10] X fun e w'=>∃p:Nat,e=.returned (.int .i64 ((p:Nat):Int))∧w'=X∧p<10):=fun wr i l0 sl0 l sl s lz hM hi=>by
  obtain⟨g,o,e1,e2⟩:=tcell i hi
  rw[List.getD_eq_getElem?_getD,List.getElem?_eq_getElem hi]
  exact⟨g,o,e1,Below.cellv hM.bel e2,fun X=>(pick_any tp[i] 10 X (hint _ (List.getElem_mem hi)) (by omega) (by omega)).mono fun e w' hp=>⟨_,hp.1,hp.2,pickA_lt (by omega)⟩⟩
 have hci:(L.length:Int)≤(cap:Int):=by omega
 have hcm:(cap:Int)≤9223372036854775807:=by omega
 have tci:(tp.length:Int)≤(tcap:Int):=by omega
 have tcm:(tcap:Int)≤9223372036854775807:=by omega
 clear hcell hin G tcell hint CY0 CY1
 go_loopg [10,11,12] 20 (fun gh wv fv iv wr=>∃(i:Nat) (l0:List Nat) (s:EgP) (lz:Nat),gh=20-i∧fv=.int .i64 ((lz:Nat):Int)∧iv=.int .i64 ((i:Nat):Int)∧i≤20∧Aside (EgI w wr pB pA pB i l0 wv s lz))
 case atStart=>exact⟨0,[],egS0,0,by omega,rfl,rfl,by omega,(show EgI w _ pB pA pB 0 [] _ egS0 0 from ST.out)⟩
 case round =>
  obtain⟨i,l0,s,lz,rfl,rfl,rfl,hi,hI⟩:=hrel
  obtain⟨⟨vad0,vcap0,rfl⟩,h09,hlz⟩:=ROW.out _ _ _ _ _ _ hI.out
  by_cases hlt:i<L.length
  ·by_cases h20:i<20
   ·obtain⟨ga,oa,sl,rfl,hcl,⟨sa,sn,sc,rfl⟩,CO⟩:=IN.out _ _ _ _ _ _ hI.out hlt h20
    have hii:(i:Int)<(L.length:Int):=by omega
    have hi20:(i:Int)<20:=by omega
    clear hI IN END ST ROW
    go_wp2_with (first
     |(go_at_call 18;refine CO.mono ?_;rintro e w5 ⟨t,T,l,vad,vcap,rfl,C1⟩;clear CO)
     |(go_at_call 19;(first | (refine C1.mono ?_;rintro e w6 ⟨rfl,C2⟩;clear C1) | (refine C2.mono ?_;rintro e w7 ⟨rfl,C3⟩;clear C2)))
     |(go_at_call 20;(first | (refine C3.mono ?_;rintro e w8 ⟨rfl,C4⟩;clear C3) | (refine C4.mono ?_;rintro e w9 ⟨rfl,C5⟩;clear C4)))
     |(go_at_call 16;(first | (refine C5.mono ?_;rintro e wa ⟨rfl,C6⟩;clear C5) | (refine C6.mono ?_;rintro e wb ⟨rfl,C7⟩;clear C6)))
     |(go_at_call 17;(first | (refine C7.mono ?_;rintro e wc ⟨rfl,C8⟩;clear C7) | (refine C8.mono ?_;rintro e wd ⟨rfl,C9⟩;clear C8)))
     |(go_at_call 22;(first | (refine C9.mono ?_;rintro e we ⟨rfl,C10⟩;clear C9) | (refine C10.mono ?_;rintro e wf ⟨rfl,s',hM⟩;have HM:Hid _:=hM;clear C10 hM))))
    have hl9:(l.length:Int)≤9:=by have:=HM.out.hl.len;omega
    have h0i:(l0.length:Int)≤9:=by omega
    have hlzi:(lz:Int)≤180:=by omega
    have CEL:Hid (∀wq k,EgM w wq pB pA pB i l0 (.slice vad0 l0.length vcap0) l (.slice vad l.length vcap) s' lz→k<l.length→∃gv,vad=some ⟨gv,0,none⟩∧l.length≤vcap∧vcap≤9223372036854775807∧wq.cell? ⟨gv,k,none⟩=some (.int .i64 ((l.getD k 0:Nat):Int))):=fun wq k hM hk=>by
     obtain⟨gv,vc,hv,c1,c2,hc,_⟩:=owns_cell hM.row hk
     cases hv
     rw[List.getD_eq_getElem?_getD,List.getElem?_eq_getElem hk]
     exact⟨gv,rfl,c1,c2,hc⟩
    have CEL0:Hid (∀wq k,EgM w wq pB pA pB i l0 (.slice vad0 l0.length vcap0) l (.slice vad l.length vcap) s' lz→k<l0.length→∃gv,vad0=some ⟨gv,0,none⟩∧l0.length≤vcap0∧vcap0≤9223372036854775807∧wq.cell? ⟨gv,k,none⟩=some (.int .i64 ((l0.getD k 0:Nat):Int))):=fun wq k hM hk=>by
     obtain⟨gv,vc,hv,c1,c2,hc,_⟩:=owns_cell hM.row0 hk
     cases hv
     rw[List.getD_eq_getElem?_getD,List.getElem?_eq_getElem hk]
     exact⟨gv,rfl,c1,c2,hc⟩
    have NEW:Hid (∀k,k<l.length→newc l0 (l.take (k+1))=newc l0 (l.take k)+(if l.getD k 0∈l0 then 0 else 1)∧newc l0 (l.take k)≤9):=fun k hk=>by
     rw[List.getD_eq_getElem?_getD,List.getElem?_eq_getElem hk]
     refine⟨newc_snoc l0 hk,?_⟩
     have:=newc_le l0 (l.take k)
     have:(l.take k).length=k:=by simp;omega
     omega
    have TWI:Hid (∀(x j:Nat),j<l0.length→(decide (x∈l0.take j) || (((l0.getD j 0:Nat):Int)==((x:Nat):Int)))=decide (x∈l0.take (j+1))):=fun x j hj=>by
     rw[List.take_succ_eq_append_getElem hj,List.getD_eq_getElem?_getD,List.getElem?_eq_getElem hj]
     simp only[List.mem_append,List.mem_singleton,Option.getD_some]
     by_cases hq:x=l0[j]
     ·simp[hq]
     ·have:¬ ((l0[j]:Nat):Int)=(x:Int):=by omega
      simp[hq,this]
    have N0:newc l0 (l.take 0)=0:=rfl
    go_loopg [11,21] l.length (fun gh fv kv wq=>∃k:Nat,gh=l.length-k∧fv=.int .i64 ((lz+newc l0 (l.take k):Nat):Int)∧kv=.int .i64 ((k:Nat):Int)∧k≤l.length∧Aside (EgM w wq pB pA pB i l0 (.slice vad0 l0.length vcap0) l (.slice vad l.length vcap) s' lz))
    case atStart=>exact⟨0,by omega,by rw[N0,Nat.add_zero],rfl,Nat.zero_le _,(show EgM w _ pB pA pB i l0 _ l _ s' lz from HM.out)⟩
    case round =>
     obtain⟨k,rfl,rfl,rfl,hk,hM⟩:=hrel
     by_cases hkl:k<l.length
     ·have hki:(k:Int)<(l.length:Int):=by omega
      obtain⟨hn1,hn2⟩:=NEW.out k hkl
      have hn2i:((lz+newc l0 (l.take k):Nat):Int)≤200:=by omega
      have HN:Hid _:=hn1
      clear hn1
      have HM2:Hid _:=hM.out
      clear hM
      go_wp2_with fail
      go_loopg [22,23] l0.length (fun gh tv jv wq=>∃j:Nat,gh=l0.length-j∧tv=.bool (decide (l.getD k 0∈l0.take j))∧jv=.int .i64 ((j:Nat):Int)∧j≤l0.length∧Aside (EgM w wq pB pA pB i l0 (.slice vad0 l0.length vcap0) l (.slice vad l.length vcap) s' lz))
      case atStart=>exact⟨0,by omega,by simp,rfl,Nat.zero_le _,(show EgM w _ pB pA pB i l0 _ l _ s' lz from HM2.out)⟩
      case round =>
       obtain⟨j,rfl,rfl,rfl,hj,hMj⟩:=hrel
       by_cases hjl:j<l0.length
       ·obtain⟨gv,rfl,v1,v2,d1⟩:=CEL.out _ k hMj.out hkl
        obtain⟨gw,rfl,u1,u2,d2⟩:=CEL0.out _ j hMj.out hjl
        have hji:(j:Int)<(l0.length:Int):=by omega
        have v1i:(l.length:Int)≤(vcap:Int):=by omega
        have v2i:(vcap:Int)≤9223372036854775807:=by omega
        have u1i:(l0.length:Int)≤(vcap0:Int):=by omega
        have u2i:(vcap0:Int)≤9223372036854775807:=by omega
        have htw:=TWI.out (l.getD k 0) j hjl
        have HMj:Hid (∀n,EgM w (wr.drewN n) pB pA pB i l0 (.slice (some ⟨gw,0,none⟩) l0.length vcap0) l (.slice (some ⟨gv,0,none⟩) l.length vcap) s' lz):=fun n=>hMj.out.below (below_drewN (Below.refl _ _) n)
        have HMk:Hid _:=hMj.out
        clear hMj CEL CEL0 TWI NEW HN HM HM2 TAP
        generalize l.getD k 0=x at *
        generalize l0.getD j 0=x0 at *
        cases htk:decide (x∈l0.take j) with
        | true =>
         rw[htk] at htw
         go_wp2_with fail
         go_quiet (fail)
         all_goals (go_wp2_with fail)
         all_goals
          go_roundg (l0.length-(j+1))
          case measure=>omega
          case rel=>exact⟨j+1,rfl,by first | (rw[←htw];done) | (rw[←htw];simp),by go_num,by omega,(show EgM w _ pB pA pB i l0 _ l _ s' lz from by first | exact HMj.out _ | exact HMk.out)⟩
        | false =>
         rw[htk] at htw
         go_wp2_with fail
         go_quiet (fail)
         all_goals (go_wp2_with fail)
         all_goals
          go_roundg (l0.length-(j+1))
          case measure=>omega
          case rel=>exact⟨j+1,rfl,by first | (rw[←htw];done) | (rw[←htw];simp),by go_num,by omega,(show EgM w _ pB pA pB i l0 _ l _ s' lz from by first | exact HMj.out _ | exact HMk.out)⟩
       ·have hje:j=l0.length:=by omega
        subst hje
        have hji:¬ ((l0.length:Nat):Int)<((l0.length:Nat):Int):=by omega
        rw[List.take_length]
        have HMk:Hid _:=hMj.out
        have hn1:=HN.out
        clear hMj CEL CEL0 TWI NEW HN HM HM2 TAP hjl
        by_cases hm:l.getD k 0∈l0
        ·rw[decide_eq_true hm]
         rw[if_pos hm,Nat.add_zero] at hn1
         have HN1:Hid _:=hn1
         clear hn1 hm
         go_wp2_with fail
         go_roundg (l.length-(k+1))
         case measure=>omega
         case rel=>exact⟨k+1,rfl,by rw[HN1.out];go_num,by go_num,by omega,(show EgM w _ pB pA pB i l0 _ l _ s' lz from HMk.out)⟩
        ·rw[decide_eq_false hm]
         rw[if_neg hm] at hn1
         have HN1:Hid _:=hn1
         clear hn1 hm
         go_wp2_with fail
         go_roundg (l.length-(k+1))
         case measure=>omega
         case rel=>exact⟨k+1,rfl,by rw[HN1.out];go_num,by go_num,by omega,(show EgM w _ pB pA pB i l0 _ l _ s' lz from HMk.out)⟩
     ·have hke:k=l.length:=by omega
      subst hke
      rw[List.take_length]
      have hki:¬ ((l.length:Nat):Int)<((l.length:Nat):Int):=by omega
      have NXT:Hid _:=hM.out.next
      have HMk:Hid _:=hM.out
      have hNn:Hid (newc l0 l≤l.length):=newc_le l0 l
      clear NEW TWI CEL0 CEL HM hkl
      by_cases htl:i<tp.length
      ·have hti:(i:Int)<(tp.length:Int):=by omega
       obtain⟨tg,tof,rfl,htc,CP0⟩:=TAP.out _ _ _ _ _ _ _ _ hM.out htl
       have CP:Hid (∀X,_):=CP0
       clear hM TAP CP0 NXT
       generalize tp.getD i 0=tz at *
       go_wp2_with (first
        |(go_at_call 10;refine (CP.out _).mono ?_;rintro e w1 ⟨p,rfl,rfl,hp10⟩;clear CP))
       have hNl:=hNn.out
       by_cases hp:p<l.length
       ·have hpi:(p:Int)<(l.length:Int):=by omega
        obtain⟨gv,rfl,v1,v2,hx,C1⟩:=eg_tap HMk.out h20 hp (below1 w1 _) (heap_alloc_new _ _)
        unfold tapB at C1
        have CX:Hid (∀X,Calls prog 9 #[.int .i64 ((l[p]:Nat):Int)] X fun e w'=>e=.returned (.string ⟨(itoa ((l[p]:Nat):Int)).toArray⟩)∧w'=X):=fun X=>number_any ((l[p]:Nat):Int) X (by unfold In64;omega)
        have nxl:((itoa ((l[p]:Nat):Int)).length:Int)≤2:=by have:=itoa12 hx;omega
        have v1i:(l.length:Int)≤(vcap:Int):=by omega
        have v2i:(vcap:Int)≤9223372036854775807:=by omega
        clear HMk
        generalize l[p]=x at *
        go_wp2_with (first
         |(go_at_call 23;(first | (refine C1.mono ?_;rintro e x1 ⟨rfl,C2⟩;clear C1) | (refine C2.mono ?_;rintro e x2 ⟨rfl,y1,C3⟩;clear C2)))
         |(go_at_call 20;(first | (refine C3.mono ?_;rintro e x3 ⟨rfl,C4⟩;clear C3) | (refine C4.mono ?_;rintro e x4 ⟨rfl,C5⟩;clear C4)))
         |(go_at_call 9;refine (CX.out _).mono ?_;rintro e x9 ⟨rfl,rfl⟩)
         |(go_at_call 22;(first | (refine C5.mono ?_;rintro e x5 ⟨rfl,y2,y3,C6⟩;clear C5) | (refine C6.mono ?_;rintro e x6 ⟨rfl,C7⟩;clear C6)))
         |(go_at_call 16;(first | (refine C7.mono ?_;rintro e x7 ⟨⟨t7,z7,rfl⟩,C8⟩;clear C7) | (refine C8.mono ?_;rintro e x8 ⟨⟨t8,z8,rfl⟩,T8,C9⟩;clear C8)))
         |(go_at_call 17;(first | (refine C9.mono ?_;rintro e xa ⟨rfl,C10⟩;clear C9) | (refine C10.mono ?_;rintro e xb ⟨rfl,s9,hI9⟩;have HI9:Hid _:=hI9;clear C10 hI9))))
        go_roundg (20-(i+1))
        case measure=>omega
        case rel=>exact⟨i+1,l,s9,lz+newc l0 l,rfl,by go_num,by go_num,by omega,(show EgI w _ pB pA pB (i+1) l _ s9 (lz+newc l0 l) from HI9.out)⟩
       ·have hpi:¬ (p:Int)<(l.length:Int):=by omega
        have C1:=eg_miss HMk.out h20 hp hp10 (below1 w1 _) (heap_alloc_new _ _)
        unfold tapB at C1
        clear HMk
        go_wp2_with (first
         |(go_at_call 23;(first | (refine C1.mono ?_;rintro e x1 ⟨⟨t1,z1,rfl⟩,C2⟩;clear C1) | (refine C2.mono ?_;rintro e x2 ⟨⟨t2,z2,rfl⟩,y1,hI9⟩;have HI9:Hid _:=hI9;clear C2 hI9))))
        go_roundg (20-(i+1))
        case measure=>omega
        case rel=>exact⟨i+1,l,s',lz+newc l0 l,rfl,by go_num,by go_num,by omega,(show EgI w _ pB pA pB (i+1) l _ s' (lz+newc l0 l) from HI9.out)⟩
      ·have hti:¬ (i:Int)<(tp.length:Int):=by omega
       clear hM TAP HMk
       go_wp2_with fail
       go_roundg (20-(i+1))
       case measure=>omega
       case rel=>exact⟨i+1,l,s',lz+newc l0 l,rfl,rfl,by go_num,by omega,(show EgI w _ pB pA pB (i+1) l _ s' (lz+newc l0 l) from NXT.out)⟩
   ·have hii:(i:Int)<(L.length:Int):=by omega
    have hi20:¬ (i:Int)<20:=by omega
    have CE:=END.out _ _ _ _ _ _ hI.out
    clear hI IN END ST ROW TAP
    go_wp2_with (go_at_call 24;refine CE.mono ?_;rintro e y1 ⟨a1,b1,rfl,CE2⟩;have CE3:=CE2 _ rfl;clear CE CE2)
    refine CE3.mono ?_
    rintro e y2 ⟨c1,d1,rfl,FIN⟩
    obtain⟨z1,z2,z3,z4,z5,z6,z7⟩:=FIN _ rfl
    have FI:Hid _:=z7
    clear FIN z7 CE3
    go_wp2_with fail
    go_ret
    exact⟨rfl,FI.out⟩
  ·have hii:¬ (i:Int)<(L.length:Int):=by omega
   have CE:=END.out _ _ _ _ _ _ hI.out
   clear hI IN END ST ROW TAP
   go_wp2_with (go_at_call 24;refine CE.mono ?_;rintro e y1 ⟨a1,b1,rfl,CE2⟩;have CE3:=CE2 _ rfl;clear CE CE2)
   refine CE3.mono ?_
   rintro e y2 ⟨c1,d1,rfl,FIN⟩
   obtain⟨z1,z2,z3,z4,z5,z6,z7⟩:=FIN _ rfl
   have FI:Hid _:=z7
   clear FIN z7 CE3
   go_wp2_with fail
   go_ret
   exact⟨rfl,FI.out⟩
end Go.Proofs.YtifhgjpglicjbaaGreatDoor
