/-
  Bubbled.
-/
import Derived.Test.YtifhgjpglicjbaaGreatDoorBbF
set_option maxHeartbeats 1500000
set_option maxRecDepth 8000
namespace Go.Proofs.YtifhgjpglicjbaaGreatDoor
open Go.Proofs.Tryz
open Go.RowKit Go.Lib
attribute [local go_sem ↓] Go.wp_at_zero Go.wp_at_succ
theorem Bubbled_any (raw:List Int)(dp ex:Int)(sv:Value)(w:World)(E:Nat→Addr)(G:G0 w E)(aP:Addr)(hP:w.cell? ⟨2,0,none⟩=some (errVal aP))(hdp:In64 dp)(hex:In64 ex)(hin:∀z∈raw,In64 z)(h:IntsAt w sv raw):
  Calls prog 7 #[sv,.int .i64 dp,.int .i64 ex] w fun e w'=>e=.returned (.bool true)∧Below w.heap.size w w':=by
 obtain⟨ad,cap,rfl,hc1,hc2,hcell⟩:=h
 have CK:=known_ok w E G.er G.fl G.nu G.sz
 have CELL:Hid (∀X i,Below w.heap.size w X→i<raw.length→∃g o,ad=some ⟨g,o,none⟩∧X.cell? ⟨g,o+i,none⟩=some (.int .i64 (raw.getD i 0))∧∀Y,Calls prog 10 #[.int .i64 (raw.getD i 0),.int .i64 12] Y fun e w'=>e=.returned (.int .i64 ((pickA (raw.getD i 0) 12:Nat):Int))∧w'=Y):=fun X i hX hi=>by
  obtain⟨g,o,e1,e2⟩:=hcell i hi
  rw[List.getD_eq_getElem?_getD,List.getElem?_eq_getElem hi]
  exact⟨g,o,e1,Below.cellv hX e2,fun Y=>pick_any raw[i] 12 Y (hin _ (List.getElem_mem hi)) (by omega) (by omega)⟩
 have STEP1:Hid (∀wr i v,BkI raw w wr i v→i<raw.length→wr.ownsRow w.heap.size 3 1 v i ((lvs raw i).map intV)∧w.heap.size≤wr.heap.size∧∀w' v',w'.ownsRow w.heap.size 3 1 v' (i+1) ((lvs raw i).map intV++[.int .i64 ((pickA (raw.getD i 0) 12:Nat):Int)])→(wr.alloc (.cells #[.int .i64 ((pickA (raw.getD i 0) 12:Nat):Int)] 3)).grownBy w' v.ownBlock→BkI raw w w' (i+1) v'):=fun wr i v hA hi=>by
  refine⟨hA.own,hA.bel.size,fun w' v' ho hg=>⟨?_,?_⟩⟩
  ·exact (hA.bel.alloc hA.bel.size _).grown hg (by simp;have:=hA.bel.size;omega) fun q hq=>(hA.own.lt q hq).1
  ·rw[lvs_succ hi,List.map_append]
   exact ho
 have SLC:Hid (∀wr i v,BkI raw w wr i v→∃a c,v=.slice a i c):=fun wr i v hA=>owns_slice hA.own
 unfold maxLen at hc2
 have hci:(raw.length:Int)≤(cap:Int):=by omega
 have hcm:(cap:Int)≤9223372036854775807:=by omega
 go_enter func7,ntmps7
 go_upto_block 0 with (go_at_call 8;refine CK.mono ?_;rintro e w1 ⟨rfl,hb1⟩;clear CK)
 have ST1:Hid (BkI raw w w1 0 (.slice none 0 0)):=⟨hb1,World.ownsRow_nil _ _ _ _⟩
 clear hb1
 go_cut [8,9] (fun lv iv wx=>∃(n:Nat) (va:Option Addr) (vc:Nat),lv=.slice va n vc∧iv=.int .i64 ((n:Nat):Int)∧n≤raw.length∧n≤10∧BkI raw w wx n lv)
 case first =>
  --@F1
  go_wp2_with fail
  go_loopg [8,9] 10 (fun gh lv iv wr=>∃(n:Nat),gh=10-n∧iv=.int .i64 ((n:Nat):Int)∧n≤raw.length∧n≤10∧Aside (BkI raw w wr n lv))
  case atStart=>exact⟨0,by omega,rfl,Nat.zero_le _,by omega,(show BkI raw w _ 0 _ from ST1.out)⟩
  case round =>
   obtain⟨n,rfl,rfl,hn,hn10,hB⟩:=hrel
   obtain⟨va,vc,rfl⟩:=SLC.out _ _ _ hB.out
   by_cases hlt:n<raw.length
   ·have hni:(n:Int)<(raw.length:Int):=by omega
    by_cases h10:n<10
    ·have h10i:(n:Int)<10:=by omega
     obtain⟨g,o,rfl,hcl,CP0⟩:=CELL.out _ n hB.out.bel hlt
     obtain⟨o1,o2,NX⟩:=STEP1.out _ _ _ hB.out hlt
     have CP:Hid (∀Y,_):=CP0
     have NX2:Hid _:=NX
     clear CP0 NX hB CELL STEP1 ST1
     generalize raw.getD n 0=z at *
     go_wp2_with (first
      |(go_at_call 10;refine (CP.out _).mono ?_;rintro e w3 ⟨rfl,rfl⟩;clear CP)
      |(at_builtin;obtain⟨i0,hi',hz0,hz1,hz2⟩:=info_parts Tryz.infoIntO;refine wpList_append_own_at _ rfl _ _ 22 rfl w.heap.size 3 i0 _ 1 8 underlying22 hi' hz0 hz1 hz2 rfl (by decide) _ _ _ rfl (o1.alloc _) ⟨_,0,none⟩ 1 1 [.int .i64 ((pickA z 12:Nat):Int)] rfl rfl (World.news_of_block (heap_alloc_new _ _)) (fun x hx=>by simp at hx;subst hx;rfl) (by unfold maxLen;omega) (by omega) (by simp;omega) ?_;intro v6 w6 own6 hg6 hn6 hob6;clear hi' hz0 hz1 hz2))
     have N6:=NX2.out w6 v6 own6 hg6
     have HN:Hid _:=N6
     clear N6
     go_roundg (10-(n+1))
     case measure=>omega
     case rel=>exact⟨n+1,rfl,by go_num,by omega,by omega,(show BkI raw w _ (n+1) _ from HN.out)⟩
    ·have h10i:¬ (n:Int)<10:=by omega
     have HB:Hid _:=hB.out
     clear hB CELL STEP1 ST1
     go_wp2_with fail
     go_meet
     exact⟨n,va,vc,rfl,rfl,hn,hn10,HB.out⟩
   ·have hni:¬ (n:Int)<(raw.length:Int):=by omega
    have HB:Hid _:=hB.out
    clear hB CELL STEP1 ST1
    go_wp2_with fail
    go_meet
    exact⟨n,va,vc,rfl,rfl,hn,hn10,HB.out⟩
  --@E1
 case rest =>
  obtain⟨n,va,vc,rfl,rfl,hn,hn10,hB⟩:=hcut
  have HB:Hid _:=hB
  clear hB CELL STEP1 ST1 SLC
  have hll:=lvs_len hn
  have hlt12:=lvs_lt raw n
  obtain⟨l,hl⟩:∃l,l=lvs raw n:=⟨_,rfl⟩
  have CL:Hid (∀X j,BkI raw w X n (.slice va n vc)→j<n→∃g,va=some ⟨g,0,none⟩∧n≤vc∧vc≤9223372036854775807∧X.cell? ⟨g,j,none⟩=some (.int .i64 ((l.getD j 0:Nat):Int))∧l.getD j 0<12):=fun X j hX hj=>by
   obtain⟨g,vc',e1,e2,e3,e4⟩:=hX.cell hn hj
   cases e1
   rw[hl]
   refine⟨g,rfl,e2,e3,e4,?_⟩
   rw[List.getD_eq_getElem?_getD,List.getElem?_eq_getElem (by omega)]
   exact hlt12 _ (List.getElem_mem _)
  rw[←hl] at hll
  have hni:(n:Int)≤10:=by omega
  have SL:Hid (∀j,j≤n→(lvS l j).length≤1600):=fun j hj=>lvS_len (by omega) j (by omega)
  have S0:lvS l n=[39,101,110,100,39]:=by rw[←hll];exact lvS_end l
  have SS:Hid (∀j,j<n→(tgb (l.getD j 0)=true→(⟨#[40,108,105,115,116,32,39,116,97,103,39,32,39,116]⟩:ByteArray)++bsA (taC (decide (j % 2=1)))++⟨#[39,32]⟩++(⟨#[40,108,105,115,116,32,39,101,108,39,32,39,100,39,32,40,108,105,115,116,32]⟩++(bsA (hS1 j (l.getD j 0)++hS2 (l.getD j 0)))++⟨#[41,32,40,108,105,115,116,32,55,32]⟩++⟨(lvS l (j+1)).toArray⟩++⟨#[41,41]⟩)++⟨#[41]⟩=⟨(lvS l j).toArray⟩)∧(tgb (l.getD j 0)=false→(⟨#[40,108,105,115,116,32,39,101,108,39,32,39,100,39,32,40,108,105,115,116,32]⟩:ByteArray)++(bsA (hS1 j (l.getD j 0)++hS2 (l.getD j 0)))++⟨#[41,32,40,108,105,115,116,32,55,32]⟩++⟨(lvS l (j+1)).toArray⟩++⟨#[41,41]⟩=⟨(lvS l j).toArray⟩)):=fun j hj=>by
   rw[List.getD_eq_getElem?_getD,List.getElem?_eq_getElem (by omega)]
   obtain⟨h1,h2⟩:=lvS_step (l:=l) (i:=j) (by omega)
   refine⟨fun h=>?_,fun h=>?_⟩
   ·rw[h1 h]
    apply ByteArray.ext
    simp[bsA]
   ·rw[h2 h]
    apply ByteArray.ext
    simp[bsA]
  have HL:Hid (l=lvs raw n):=hl
  clear hl hlt12
  go_upto_block 2 with fail
  go_cut [10,11] (fun s2 i2 wx=>s2=.string ⟨(lvS l 0).toArray⟩∧i2=.int .i64 (-1)∧BkI raw w wx n (.slice va n vc))
  case first =>
   --@F2
   go_wp2_with fail
   go_loopg [10,11] n (fun gh s2 i2 wr=>∃j:Nat,gh=j∧s2=.string ⟨(lvS l j).toArray⟩∧i2=.int .i64 ((j:Int)-1)∧j≤n∧Aside (BkI raw w wr n (.slice va n vc)))
   case atStart=>exact⟨n,rfl,by rw[S0],by go_num,Nat.le_refl _,(show BkI raw w _ n _ from HB.out)⟩
   case round =>
    obtain⟨j,hgh,rfl,rfl,hj,hB⟩:=hrel
    have hgh:=hgh.symm
    subst hgh
    by_cases hj0:0<j
    ·obtain⟨i,rfl⟩:∃i,j=i+1:=⟨j-1,by omega⟩
     have hii:(i:Int)<(n:Int):=by omega
     have hjn:¬ (((i+1:Nat):Int)-1<0):=by omega
     have ei:(((i+1:Nat):Int)-1)=(i:Int):=by omega
     rw[ei]
     obtain⟨g,rfl,v1,v2,hcl,hk12⟩:=CL.out _ i hB.out (by omega)
     have v1i:(n:Int)≤(vc:Int):=by omega
     have v2i:(vc:Int)≤9223372036854775807:=by omega
     obtain⟨ss1,ss2⟩:=SS.out i (by omega)
     have hsl:=SL.out (i+1) (by omega)
     have hsli:((lvS l (i+1)).length:Int)≤1600:=by omega
     have HBi:Hid (∀X,Below wr.heap.size wr X→BkI raw w X n (.slice (some ⟨g,0,none⟩) n vc)):=fun X hX=>hB.out.below hX
     have HBn:Hid _:=hB.out
     clear hB CL SS SL HB S0 hj0 ei
     generalize l.getD i 0=k at *
     have e2:Int.tmod ((k:Nat):Int) 2=((k % 2:Nat):Int):=(show ∀x:Fin 12,Int.tmod ((x.1:Nat):Int) 2=((x.1 % 2:Nat):Int) by decide) ⟨k,hk12⟩
     have e6:Int.tmod ((k:Nat):Int) 6=((k % 6:Nat):Int):=(show ∀x:Fin 12,Int.tmod ((x.1:Nat):Int) 6=((x.1 % 6:Nat):Int) by decide) ⟨k,hk12⟩
     have e4:Int.tmod ((k:Nat):Int) 4=((k % 4:Nat):Int):=(show ∀x:Fin 12,Int.tmod ((x.1:Nat):Int) 4=((x.1 % 4:Nat):Int) by decide) ⟨k,hk12⟩
     have ep:Int.tmod ((i:Nat):Int) 2=((i % 2:Nat):Int):=(show ∀x:Fin 10,Int.tmod ((x.1:Nat):Int) 2=((x.1 % 2:Nat):Int) by decide) ⟨i,by omega⟩
     have hp2:i % 2<2:=Nat.mod_lt _ (by omega)
     have h22:k % 2<2:=Nat.mod_lt _ (by omega)
     have CI:Hid (∀X,Calls prog 9 #[.int .i64 ((i:Nat):Int)] X fun e w'=>e=.returned (.string ⟨(itoa ((i:Nat):Int)).toArray⟩)∧w'=X):=fun X=>number_any (i:Int) X (by unfold In64;omega)
     have C2:Hid (∀X,Calls prog 9 #[.int .i64 ((k % 2:Nat):Int)] X fun e w'=>e=.returned (.string ⟨(itoa ((k % 2:Nat):Int)).toArray⟩)∧w'=X):=fun X=>number_any ((k % 2:Nat):Int) X (by unfold In64;omega)
     have C1:Hid (∀X,Calls prog 9 #[.int .i64 1] X fun e w'=>e=.returned (.string ⟨(itoa 1).toArray⟩)∧w'=X):=fun X=>number_any 1 X (by unfold In64;omega)
     have n1:((itoa 1).length:Int)≤21:=by have:=itoa_length_le 1 (by omega) (by omega);omega
     have ni:((itoa ((i:Nat):Int)).length:Int)≤21:=by have:=itoa_length_le (i:Int) (by omega) (by omega);omega
     have n2:((itoa ((k % 2:Nat):Int)).length:Int)≤21:=by have:=itoa_length_le ((k % 2:Nat):Int) (by omega) (by omega);omega
     have FE:Hid (tgb k=false→∀H,H=bsA (hS1 i k++hS2 k)→(⟨#[40,108,105,115,116,32,39,101,108,39,32,39,100,39,32,40,108,105,115,116,32]⟩:ByteArray)++H++⟨#[41,32,40,108,105,115,116,32,55,32]⟩++⟨(lvS l (i+1)).toArray⟩++⟨#[41,41]⟩=⟨(lvS l i).toArray⟩):=fun h3 H hH=>by rw[hH];exact ss2 h3
     have FT:Hid (tgb k=true→∀H T,H=bsA (hS1 i k++hS2 k)→T=bsA (taC (decide (i % 2=1)))→(⟨#[40,108,105,115,116,32,39,116,97,103,39,32,39,116]⟩:ByteArray)++T++⟨#[39,32]⟩++(⟨#[40,108,105,115,116,32,39,101,108,39,32,39,100,39,32,40,108,105,115,116,32]⟩++H++⟨#[41,32,40,108,105,115,116,32,55,32]⟩++⟨(lvS l (i+1)).toArray⟩++⟨#[41,41]⟩)++⟨#[41]⟩=⟨(lvS l i).toArray⟩):=fun h3 H T hH hT=>by rw[hH,hT];exact ss1 h3
     have K1:Hid ((k % 2=1→h1b k=true)∧(¬ k % 2=1→h1b k=false)∧(3<k % 6→h2b k=true)∧(¬ 3<k % 6→h2b k=false)∧(1<k % 4→tgb k=true)∧(¬ 1<k % 4→tgb k=false)):=⟨fun h=>by simp[h1b,h],fun h=>by simp[h1b,h],fun h=>by simp[h2b,h],fun h=>by simp[h2b,h],fun h=>by simp[tgb,h],fun h=>by simp[tgb,h]⟩
     clear ss1 ss2
     generalize hm2:k % 2=m2 at *
     generalize k % 6=m6 at *
     generalize k % 4=m4 at *
     generalize hmi:i % 2=mi at *
     obtain⟨k1,k2,k3,k4,k5,k6⟩:=K1.out
     have HK1:Hid _:=k1
     have HK2:Hid _:=k2
     have HK3:Hid _:=k3
     have HK4:Hid _:=k4
     have HK5:Hid _:=k5
     have HK6:Hid _:=k6
     have HM2:Hid (k % 2=m2):=hm2
     clear K1 k1 k2 k3 k4 k5 k6 hm2 hmi
     by_cases A:m2=1
     ·have Ai:(m2:Int)=1:=by omega
      by_cases B:3<m6
      ·have Bi:(3:Int)<(m6:Int):=by omega
       by_cases C:1<m4
       ·have Ci:(1:Int)<(m4:Int):=by omega
        rcases mi with _ | _ | mi
        ·go_wp2_with (go_at_call 9;(first | with_reducible refine (CI.out _).mono ?_ | with_reducible refine (C2.out _).mono ?_ | with_reducible refine (C1.out _).mono ?_);rintro e w5 ⟨rfl,rfl⟩)
         go_roundg i
         case measure=>omega
         case rel=>exact⟨i,rfl,by rw[FT.out (HK5.out C) _ _ (by apply ByteArray.ext;simp[bsA,hS1,hS2,dgt,HK1.out A,HK3.out B,HM2.out,A]) (by rfl)],by go_num,by omega,(show BkI raw w _ n _ from HBi.out _ (below1 _ _))⟩
        ·go_wp2_with (go_at_call 9;(first | with_reducible refine (CI.out _).mono ?_ | with_reducible refine (C2.out _).mono ?_ | with_reducible refine (C1.out _).mono ?_);rintro e w5 ⟨rfl,rfl⟩)
         go_roundg i
         case measure=>omega
         case rel=>exact⟨i,rfl,by rw[FT.out (HK5.out C) _ _ (by apply ByteArray.ext;simp[bsA,hS1,hS2,dgt,HK1.out A,HK3.out B,HM2.out,A]) (by rfl)],by go_num,by omega,(show BkI raw w _ n _ from HBi.out _ (below1 _ _))⟩
        ·omega
       ·have Ci:¬ (1:Int)<(m4:Int):=by omega
        go_wp2_with (go_at_call 9;(first | with_reducible refine (CI.out _).mono ?_ | with_reducible refine (C2.out _).mono ?_ | with_reducible refine (C1.out _).mono ?_);rintro e w5 ⟨rfl,rfl⟩)
        go_roundg i
        case measure=>omega
        case rel=>exact⟨i,rfl,by rw[FE.out (HK6.out C) _ (by apply ByteArray.ext;simp[bsA,hS1,hS2,dgt,HK1.out A,HK3.out B,HM2.out,A])],by go_num,by omega,(show BkI raw w _ n _ from HBn.out)⟩
      ·have Bi:¬ (3:Int)<(m6:Int):=by omega
       by_cases C:1<m4
       ·have Ci:(1:Int)<(m4:Int):=by omega
        rcases mi with _ | _ | mi
        ·go_wp2_with (go_at_call 9;(first | with_reducible refine (CI.out _).mono ?_ | with_reducible refine (C2.out _).mono ?_ | with_reducible refine (C1.out _).mono ?_);rintro e w5 ⟨rfl,rfl⟩)
         go_roundg i
         case measure=>omega
         case rel=>exact⟨i,rfl,by rw[FT.out (HK5.out C) _ _ (by apply ByteArray.ext;simp[bsA,hS1,hS2,dgt,HK1.out A,HK4.out B]) (by rfl)],by go_num,by omega,(show BkI raw w _ n _ from HBi.out _ (below1 _ _))⟩
        ·go_wp2_with (go_at_call 9;(first | with_reducible refine (CI.out _).mono ?_ | with_reducible refine (C2.out _).mono ?_ | with_reducible refine (C1.out _).mono ?_);rintro e w5 ⟨rfl,rfl⟩)
         go_roundg i
         case measure=>omega
         case rel=>exact⟨i,rfl,by rw[FT.out (HK5.out C) _ _ (by apply ByteArray.ext;simp[bsA,hS1,hS2,dgt,HK1.out A,HK4.out B]) (by rfl)],by go_num,by omega,(show BkI raw w _ n _ from HBi.out _ (below1 _ _))⟩
        ·omega
       ·have Ci:¬ (1:Int)<(m4:Int):=by omega
        go_wp2_with (go_at_call 9;(first | with_reducible refine (CI.out _).mono ?_ | with_reducible refine (C2.out _).mono ?_ | with_reducible refine (C1.out _).mono ?_);rintro e w5 ⟨rfl,rfl⟩)
        go_roundg i
        case measure=>omega
        case rel=>exact⟨i,rfl,by rw[FE.out (HK6.out C) _ (by apply ByteArray.ext;simp[bsA,hS1,hS2,dgt,HK1.out A,HK4.out B])],by go_num,by omega,(show BkI raw w _ n _ from HBn.out)⟩
     ·have Ai:¬ (m2:Int)=1:=by omega
      by_cases B:3<m6
      ·have Bi:(3:Int)<(m6:Int):=by omega
       by_cases C:1<m4
       ·have Ci:(1:Int)<(m4:Int):=by omega
        rcases mi with _ | _ | mi
        ·go_wp2_with (go_at_call 9;(first | with_reducible refine (CI.out _).mono ?_ | with_reducible refine (C2.out _).mono ?_ | with_reducible refine (C1.out _).mono ?_);rintro e w5 ⟨rfl,rfl⟩)
         go_roundg i
         case measure=>omega
         case rel=>exact⟨i,rfl,by rw[FT.out (HK5.out C) _ _ (by apply ByteArray.ext;simp[bsA,hS1,hS2,dgt,HK2.out A,HK3.out B,HM2.out]) (by rfl)],by go_num,by omega,(show BkI raw w _ n _ from HBi.out _ (below1 _ _))⟩
        ·go_wp2_with (go_at_call 9;(first | with_reducible refine (CI.out _).mono ?_ | with_reducible refine (C2.out _).mono ?_ | with_reducible refine (C1.out _).mono ?_);rintro e w5 ⟨rfl,rfl⟩)
         go_roundg i
         case measure=>omega
         case rel=>exact⟨i,rfl,by rw[FT.out (HK5.out C) _ _ (by apply ByteArray.ext;simp[bsA,hS1,hS2,dgt,HK2.out A,HK3.out B,HM2.out]) (by rfl)],by go_num,by omega,(show BkI raw w _ n _ from HBi.out _ (below1 _ _))⟩
        ·omega
       ·have Ci:¬ (1:Int)<(m4:Int):=by omega
        go_wp2_with (go_at_call 9;(first | with_reducible refine (CI.out _).mono ?_ | with_reducible refine (C2.out _).mono ?_ | with_reducible refine (C1.out _).mono ?_);rintro e w5 ⟨rfl,rfl⟩)
        go_roundg i
        case measure=>omega
        case rel=>exact⟨i,rfl,by rw[FE.out (HK6.out C) _ (by apply ByteArray.ext;simp[bsA,hS1,hS2,dgt,HK2.out A,HK3.out B,HM2.out])],by go_num,by omega,(show BkI raw w _ n _ from HBn.out)⟩
      ·have Bi:¬ (3:Int)<(m6:Int):=by omega
       by_cases C:1<m4
       ·have Ci:(1:Int)<(m4:Int):=by omega
        rcases mi with _ | _ | mi
        ·go_wp2_with (go_at_call 9;(first | with_reducible refine (CI.out _).mono ?_ | with_reducible refine (C2.out _).mono ?_ | with_reducible refine (C1.out _).mono ?_);rintro e w5 ⟨rfl,rfl⟩)
         go_roundg i
         case measure=>omega
         case rel=>exact⟨i,rfl,by rw[FT.out (HK5.out C) _ _ (by apply ByteArray.ext;simp[bsA,hS1,hS2,HK2.out A,HK4.out B]) (by rfl)],by go_num,by omega,(show BkI raw w _ n _ from HBi.out _ (below1 _ _))⟩
        ·go_wp2_with (go_at_call 9;(first | with_reducible refine (CI.out _).mono ?_ | with_reducible refine (C2.out _).mono ?_ | with_reducible refine (C1.out _).mono ?_);rintro e w5 ⟨rfl,rfl⟩)
         go_roundg i
         case measure=>omega
         case rel=>exact⟨i,rfl,by rw[FT.out (HK5.out C) _ _ (by apply ByteArray.ext;simp[bsA,hS1,hS2,HK2.out A,HK4.out B]) (by rfl)],by go_num,by omega,(show BkI raw w _ n _ from HBi.out _ (below1 _ _))⟩
        ·omega
       ·have Ci:¬ (1:Int)<(m4:Int):=by omega
        go_wp2_with (go_at_call 9;(first | with_reducible refine (CI.out _).mono ?_ | with_reducible refine (C2.out _).mono ?_ | with_reducible refine (C1.out _).mono ?_);rintro e w5 ⟨rfl,rfl⟩)
        go_roundg i
        case measure=>omega
        case rel=>exact⟨i,rfl,by rw[FE.out (HK6.out C) _ (by apply ByteArray.ext;simp[bsA,hS1,hS2,HK2.out A,HK4.out B])],by go_num,by omega,(show BkI raw w _ n _ from HBn.out)⟩
    ·have hj00:j=0:=by omega
     subst hj00
     have HBn:Hid _:=hB.out
     clear hB CL SS SL HB S0
     go_wp2_with fail
     go_meet
     exact⟨rfl,by go_num,HBn.out⟩
   --@E2
  case rest =>
   obtain⟨rfl,rfl,hB⟩:=hcut
   have hl10:l.length≤10:=by omega
   have HG:Hid _:=G.below hB.bel
   have CN:Hid (∀S,S=buB l→(1+(lvX 0 l).dep≤16→Calls prog 14 #[.string S] wc fun e w2=>∃ab,e=.returned (.tuple #[.pointer (some ⟨ab,0,none⟩),.nilIface])∧Calls prog 16 #[.pointer (some ⟨ab,0,none⟩)] w2 fun e w3=>e=.returned .nilIface∧BmI w w3 ab l (.slice va n vc) [] 0 (.lst []))∧(¬ 1+(lvX 0 l).dep≤16→Calls prog 14 #[.string S] wc fun e w2=>∃t y,e=.returned (.tuple #[.pointer none,.iface t y])∧(∃a,w2.cell? ⟨1,0,none⟩=some (errVal a)∧Calls prog 12 #[.iface t y,errVal a] w2 fun e w3=>e=.returned (.bool true)∧Below w.heap.size w w3))):=fun S hS=>by
    subst hS
    obtain⟨c1,c2⟩:=bnew_ok hl10 wc E HG.out.er HG.out.fl HG.out.nu HG.out.sz
    refine⟨fun hd=>?_,fun hd=>?_⟩
    ·refine (c1 hd).mono fun e w2 ⟨ab,c,he,hab,hb,hA⟩=>⟨ab,he,?_⟩
     refine (bframe_ok hl10 hd hA).mono fun e w3 ⟨he3,hb3,hk3,hS3⟩=>⟨he3,?_⟩
     have hs:=hB.bel.size
     refine⟨(hB.bel.trans (hb.mono hs)).trans (hb3.mono (by omega)),hS3,?_,by omega⟩
     have ho:=hB.own
     rw[←HL.out] at ho
     rw[hll]
     refine owns_keep (owns_mono ho (Nat.zero_le _)) fun q hq=>?_
     obtain⟨cur,hc⟩:=owns_block ho hq
     have e1:=hb.block q (block_lt hc)
     rw[hk3 q ⟨cur,Or.inl (e1.trans hc)⟩,e1]
    ·refine (c2 hd).mono fun e w2 ⟨p,he,hb⟩=>⟨_,_,he,E 3,Below.cellv hb HG.out.er.e3,?_⟩
     refine (is_wrong_same p (E 3) w2).mono fun e w3 ⟨he3,hb3⟩=>⟨he3,?_⟩
     have h1:=hB.bel.trans (hb.mono hB.bel.size)
     exact h1.trans (hb3.mono h1.size)
   have D4:Hid (¬ 1+(lvX 0 l).dep≤16→4<n):=fun hd=>by
    have:=(lv_b l 0 (by omega)).d1
    omega
   have EB:Hid (buB l=(⟨buPre.toArray⟩:ByteArray)++⟨(lvS l 0).toArray⟩++⟨#[41]⟩):=buB_eq l
   have hs0:=lvS_len hl10 0 (Nat.zero_le _)
   have hs0i:((lvS l 0).length:Int)≤1600:=by omega
   clear hB HB CL SS SL S0 hs0
   by_cases hd:1+(lvX 0 l).dep≤16
   ·go_upto_region 22 with (go_at_call 14;refine ((CN.out _ (by rw[EB.out];kernel_rfl)).1 hd).mono ?_;rintro e w2 ⟨ab,rfl,CF⟩;clear CN)
    have htt:pickA dp (n+1)≤n:=by have:=pickA_lt (c:=dp) (n:=n+1) (by omega);omega
    have CPT:Hid (∀X,Calls prog 10 #[.int .i64 dp,.int .i64 ((n:Int)+1)] X fun e w'=>e=.returned (.int .i64 ((pickA dp (n+1):Nat):Int))∧w'=X):=fun X=>by
     have:=pick_any dp (n+1) X hdp (by omega) (by omega)
     rw[show (((n+1:Nat)):Int)=(n:Int)+1 by omega] at this
     exact this
    generalize pickA dp (n+1)=tt at *
    have htti:(tt:Int)≤(n:Int):=by omega
    go_upto_block 4 with (first
     |(go_at_call 16;refine CF.mono ?_;rintro e w3 ⟨rfl,hM⟩;have HM:Hid _:=hM;clear CF hM)
     |(go_at_call 10;refine (CPT.out _).mono ?_;rintro e w4 ⟨rfl,rfl⟩;clear CPT))
    have ST3:Hid (∀X v i,Below w4.heap.size w4 X→X.ownsRow w4.heap.size 3 1 v i (List.replicate i (.int .i64 1))→w4.heap.size≤X.heap.size∧∀w' v',w'.ownsRow w4.heap.size 3 1 v' (i+1) (List.replicate i (.int .i64 1)++[.int .i64 1])→(X.alloc (.cells #[.int .i64 1] 3)).grownBy w' v.ownBlock→Below w4.heap.size w4 w'∧w'.ownsRow w4.heap.size 3 1 v' (i+1) (List.replicate (i+1) (.int .i64 1))):=fun X v i hX ho=>by
     refine⟨hX.size,fun w' v' ho' hg=>⟨?_,?_⟩⟩
     ·exact (hX.alloc hX.size _).grown hg (by simp;have:=hX.size;omega) fun q hq=>(ho.lt q hq).1
     ·rw[List.replicate_succ']
      exact ho'
    have ON:Hid (w4.ownsRow w4.heap.size 3 1 (.slice none 0 0) 0 (List.replicate 0 (.int .i64 1))):=World.ownsRow_nil _ _ _ _
    go_cut [19,20] (fun pv iv wx=>∃(pa:Option Addr) (pc:Nat),pv=.slice pa tt pc∧iv=.int .i64 ((tt:Nat):Int)∧Below w4.heap.size w4 wx∧wx.ownsRow w4.heap.size 3 1 pv tt (List.replicate tt (.int .i64 1)))
    case first =>
     --@F3
     go_wp2_with fail
     go_loopg [19,20] tt (fun gh pv iv wr=>∃(i:Nat) (pa:Option Addr) (pc:Nat),gh=tt-i∧pv=.slice pa i pc∧iv=.int .i64 ((i:Nat):Int)∧i≤tt∧Aside (Below w4.heap.size w4 wr∧wr.ownsRow w4.heap.size 3 1 pv i (List.replicate i (.int .i64 1))))
     case atStart=>exact⟨0,none,0,by omega,rfl,rfl,Nat.zero_le _,(show _∧_ from ⟨Below.refl _ _,ON.out⟩)⟩
     case round =>
      obtain⟨i,pa,pc,rfl,rfl,rfl,hi,hA⟩:=hrel
      by_cases hlt:i<tt
      ·have hii:(i:Int)<(tt:Int):=by omega
       obtain⟨o2,NX⟩:=ST3.out _ _ _ hA.out.1 hA.out.2
       have o1:=hA.out.2
       have NX2:Hid _:=NX
       clear NX hA ST3 ON
       go_wp2_with (at_builtin;obtain⟨i0,hi',hz0,hz1,hz2⟩:=info_parts Tryz.infoIntO;refine wpList_append_own_at _ rfl _ _ 22 rfl w4.heap.size 3 i0 _ 1 8 underlying22 hi' hz0 hz1 hz2 rfl (by decide) _ _ _ rfl (o1.alloc _) ⟨_,0,none⟩ 1 1 [.int .i64 1] rfl rfl (World.news_of_block (heap_alloc_new _ _)) (fun x hx=>by simp at hx;subst hx;rfl) (by unfold maxLen;omega) (by omega) (by simp;omega) ?_;intro v6 w6 own6 hg6 hn6 hob6;clear hi' hz0 hz1 hz2)
       have N6:=NX2.out w6 v6 own6 hg6
       obtain⟨a6,k6,rfl⟩:=owns_slice own6
       have HN:Hid _:=N6
       clear N6
       go_roundg (tt-(i+1))
       case measure=>omega
       case rel=>exact⟨i+1,a6,k6,rfl,rfl,by go_num,by omega,(show _∧_ from HN.out)⟩
      ·have hie:i=tt:=by omega
       subst hie
       have HA:Hid _:=hA.out
       clear hA ST3 ON
       go_wp2_with fail
       go_meet
       exact⟨pa,pc,rfl,rfl,HA.out⟩
     --@E3
    case rest =>
     obtain⟨pa,pc,rfl,rfl,hPb,hPo⟩:=hcut
     have HP:Hid _:=(⟨hPb,hPo⟩:_∧_)
     clear hPb hPo ST3 ON
     obtain⟨c,hc⟩:∃c,c=min (tt+1) n:=⟨_,rfl⟩
     have hmin:min (tt:Int) ((n:Int)-1)=(c:Int)-1:=by omega
     have hcn:c≤n:=by omega
     have hcni:(c:Int)≤(n:Int):=by omega
     have W0:Hid (wantD l tt=wantZ l c):=by rw[hc,←hll];exact wantD_top l (by omega)
     have ST4:Hid (LwI w4 wc tt (.slice pa tt pc) (.slice none 0 0) []):=⟨HP.out.1,HP.out.2,World.ownsRow_nil _ _ _ _⟩
     have hmc:Hid (c=min (tt+1) n):=hc
     clear hc
     go_upto_block 6 with fail
     go_cut [21,22,23] (fun wv sv iv wx=>∃(wa:Option Addr) (wcp:Nat),wv=.slice wa (wantD l tt).length wcp∧LwI w4 wx tt (.slice pa tt pc) wv (wantD l tt))
     case first =>
      --@F4
      go_wp2_with fail
      go_loopg [21,22,23] c (fun gh wv sv iv wr=>∃(j:Nat) (acc:List PV) (st:Bool) (wa:Option Addr) (wcp:Nat),gh=j∧wv=.slice wa acc.length wcp∧sv=.bool st∧iv=.int .i64 ((j:Int)-1)∧j≤c∧Aside (LwI w4 wr tt (.slice pa tt pc) wv acc∧wantD l tt=acc++(if st then [] else wantZ l j)))
      case atStart=>exact⟨c,[],false,none,0,rfl,rfl,rfl,by first | rfl | (rw[hmin]) | go_num,Nat.le_refl _,(show _∧_ from ⟨ST4.out,by rw[W0.out];rfl⟩)⟩
      case round =>
       obtain⟨j,acc,st,wa,wcp,hgh,rfl,rfl,rfl,hj,hA⟩:=hrel
       have hgh:=hgh.symm
       subst hgh
       by_cases hj0:0<j
       ·obtain⟨i,rfl⟩:∃i,j=i+1:=⟨j-1,by omega⟩
        have ei:(((i+1:Nat):Int)-1)=(i:Int):=by omega
        rw[ei]
        have hii:(i:Int)<(n:Int):=by omega
        cases st with
        | true =>
         have FI:Hid (LwI w4 wr tt (.slice pa tt pc) (.slice wa (wantD l tt).length wcp) (wantD l tt)∧acc=wantD l tt):=by
          have e:=hA.out.2
          simp only[if_true,List.append_nil] at e
          exact⟨by rw[e];exact hA.out.1,e.symm⟩
         clear hA W0 ST4
         go_wp2_with fail
         go_meet
         exact⟨wa,wcp,by rw[FI.out.2],by rw[FI.out.2];exact FI.out.1⟩
        | false =>
         obtain⟨g,hcur⟩:∃g,va=some ⟨g,0,none⟩∧n≤vc∧vc≤9223372036854775807∧(∀X,Below w4.heap.size w4 X→∀q,q<n→X.cell? ⟨g,q,none⟩=some (.int .i64 ((l.getD q 0:Nat):Int))∧l.getD q 0<12):=by
          have hr:=HM.out.row
          obtain⟨g,vc',e1,c1,c2,c3,_⟩:=owns_cell hr (k:=i) (by omega)
          rw[hll] at e1 c1
          cases e1
          refine⟨g,rfl,c1,c2,fun X hX q hq=>?_⟩
          obtain⟨g',vc',e1,c1,c2,c3,_⟩:=owns_cell hr (k:=q) (by omega)
          rw[hll] at e1
          cases e1
          rw[List.getD_eq_getElem?_getD,List.getElem?_eq_getElem (by omega)]
          refine⟨Below.cellv hX c3,?_⟩
          have:=HL.out
          exact (this ▸ lvs_lt raw n) _ (List.getElem_mem _)
         obtain⟨rfl,v1,v2,hcl⟩:=hcur
         have HCL:Hid _:=hcl
         have v1i:(n:Int)≤(vc:Int):=by omega
         have v2i:(vc:Int)≤9223372036854775807:=by omega
         obtain⟨hci0,hk12⟩:=HCL.out wr hA.out.1.bel i (by omega)
         have hdq:Hid (hdQ l i=hdsL i (l.getD i 0)∧stpQ l i=(h2b (l.getD i 0)&&h1b (l.getD i 0))):=by
          have e1:hdQ l i=hdsL i (l.getD i 0):=by
           unfold hdQ
           rw[dif_pos (by omega),List.getD_eq_getElem?_getD,List.getElem?_eq_getElem (by omega)]
           rfl
          refine⟨e1,?_⟩
          unfold stpQ
          rw[e1]
          unfold hdsL
          cases h1b (l.getD i 0)<;>cases h2b (l.getD i 0)<;>rfl
         have HA:Hid _:=hA.out
         clear hcl hA W0 ST4 hj0 ei
         generalize hk:l.getD i 0=k at *
         have HK:Hid (l.getD i 0=k):=hk
         clear hk
         have e2:Int.tmod ((k:Nat):Int) 2=((k % 2:Nat):Int):=(show ∀x:Fin 12,Int.tmod ((x.1:Nat):Int) 2=((x.1 % 2:Nat):Int) by decide) ⟨k,hk12⟩
         have e6:Int.tmod ((k:Nat):Int) 6=((k % 6:Nat):Int):=(show ∀x:Fin 12,Int.tmod ((x.1:Nat):Int) 6=((x.1 % 6:Nat):Int) by decide) ⟨k,hk12⟩
         have K1:Hid ((k % 2=1→h1b k=true)∧(¬ k % 2=1→h1b k=false)∧(3<k % 6→h2b k=true)∧(¬ 3<k % 6→h2b k=false)):=⟨fun h=>by simp[h1b,h],fun h=>by simp[h1b,h],fun h=>by simp[h2b,h],fun h=>by simp[h2b,h]⟩
         have CI:Hid (∀X,Calls prog 9 #[.int .i64 ((i:Nat):Int)] X fun e w'=>e=.returned (.string ⟨(itoa ((i:Nat):Int)).toArray⟩)∧w'=X):=fun X=>number_any (i:Int) X (by unfold In64;omega)
         obtain⟨X0,hX0⟩:∃X0,X0=wr:=⟨_,rfl⟩
         have hX0s:X0.heap.size≤wr.heap.size:=by rw[hX0];exact Nat.le_refl _
         have G1:Hid (∀X gv xs,GtI X0 X gv xs→X0.heap.size≤X.heap.size∧∀u w' v',w'.ownsRow X0.heap.size 9 1 v' (xs.length+1) (xs++[u])→(X.alloc (.cells #[u] 9)).grownBy w' gv.ownBlock→GtI X0 w' v' (xs++[u])):=fun X gv xs hG=>by
          refine⟨hG.bel.size,fun u w' v' ho hg=>⟨?_,?_⟩⟩
          ·exact (hG.bel.alloc hG.bel.size _).grown hg (by simp;have:=hG.bel.size;omega) fun q hq=>(hG.own.lt q hq).1
          ·rw[List.length_append]
           exact ho
         have G0':Hid (GtI X0 wr (.slice none 0 0) []):=⟨by rw[hX0];exact Below.refl _ _,World.ownsRow_nil _ _ _ _⟩
         have HX0:Hid (X0=wr):=hX0
         clear hX0
         obtain⟨m2,hm2⟩:∃m2,m2=k % 2:=⟨_,rfl⟩
         obtain⟨m6,hm6⟩:∃m6,m6=k % 6:=⟨_,rfl⟩
         rw[←hm2] at e2 K1
         rw[←hm6] at e6 K1
         have m2lt:m2<2:=by omega
         have m6lt:m6<6:=by omega
         clear hm2 hm6
         go_upto_if 171 with fail
         go_cut [25] (fun gv wx=>∃(ga:Option Addr) (gc:Nat),gv=.slice ga (if h1b k then [strW (.num ((i:Nat):Int))] else []).length gc∧GtI X0 wx gv (if h1b k then [strW (.num ((i:Nat):Int))] else []))
         case first =>
          --@F6
          by_cases A:m2=1
          ·have Ai:(m2:Int)=1:=by omega
           have hb:h1b k=true:=K1.out.1 A
           have G0o:=G0'.out.own
           go_wp2_with (first
            |(go_at_call 9;refine (CI.out _).mono ?_;rintro e w5 ⟨rfl,rfl⟩)
            |(at_builtin;obtain⟨i0,hi',hz0,hz1,hz2⟩:=info_parts Tryz.infoStringB;refine wpList_append_own_at _ rfl _ _ 26 rfl X0.heap.size 9 i0 _ 1 16 underlying26 hi' hz0 hz1 hz2 rfl (by decide) _ _ _ rfl (G0o.alloc _) ⟨_,0,none⟩ 1 1 [.string ⟨(itoa ((i:Nat):Int)).toArray⟩] rfl rfl (World.news_of_block (heap_alloc_new _ _)) (fun x hx=>by simp at hx;subst hx;rfl) (by unfold maxLen;simp) (by simp) (by simp;omega) ?_;intro v6 w6 own6 hg6 hn6 hob6;clear hi' hz0 hz1 hz2))
           have N6:=(G1.out _ _ _ G0'.out).2 _ w6 v6 own6 hg6
           obtain⟨a6,k6,rfl⟩:=owns_slice own6
           go_meet
           refine⟨a6,k6,?_,?_⟩
           ·rw[if_pos hb];rfl
           ·rw[if_pos hb]
            exact N6
          ·have Ai:¬ (m2:Int)=1:=by omega
           have hb:h1b k=false:=K1.out.2.1 A
           go_wp2_with fail
           go_meet
           exact⟨none,0,by rw[if_neg (by rw[hb];simp)];rfl,by rw[if_neg (by rw[hb];simp)];exact G0'.out⟩
          --@E6
         case rest =>
          obtain⟨ga,gc,rfl,hG⟩:=hcut
          have HG1:Hid _:=hG
          clear hG G0'
          have GS:Hid (gotS (hdQ l i) []=(if h1b k then [strW (.num ((i:Nat):Int))] else [])++(if h2b k then [strW (.txt lastW)] else [])∧stpQ l i=(h2b k&&h1b k)):=by
           refine⟨?_,hdq.out.2⟩
           unfold gotS
           rw[hdq.out.1]
           unfold hdsL
           cases h1b k<;>cases h2b k<;>rfl
          have x1l:((if h1b k then [strW (.num ((i:Nat):Int))] else []:List Value).length:Int)≤1:=by split<;>simp
          have SL:Hid (strW (.txt lastW)=.string ⟨#[39,108,97,115,116,39]⟩):=rfl
          obtain⟨xs1,hxs1⟩:∃xs1,xs1=(if h1b k then [strW (.num ((i:Nat):Int))] else []):=⟨_,rfl⟩
          rw[←hxs1] at HG1 GS x1l
          have eL1:(if h1b k then [strW (.num ((i:Nat):Int))] else []:List Value).length=xs1.length:=by rw[hxs1]
          rw[eL1]
          clear hxs1 eL1
          go_upto_if 179 with fail
          go_cut [25,22] (fun gv sv wx=>∃(ga:Option Addr) (gc:Nat),gv=.slice ga (gotS (hdQ l i) []).length gc∧sv=.bool (stpQ l i)∧GtI X0 wx gv (gotS (hdQ l i) []))
          case first =>
           --@F7
           by_cases B:3<m6
           ·have Bi:(3:Int)<(m6:Int):=by omega
            have hb:h2b k=true:=K1.out.2.2.1 B
            have G0o:=HG1.out.own
            have G0s:=(G1.out _ _ _ HG1.out).1
            by_cases A:m2=1
            ·have Ai:(m2:Int)=1:=by omega
             have ha:h1b k=true:=K1.out.1 A
             go_wp2_with (at_builtin;obtain⟨i0,hi',hz0,hz1,hz2⟩:=info_parts Tryz.infoStringB;refine wpList_append_own_at _ rfl _ _ 26 rfl X0.heap.size 9 i0 _ 1 16 underlying26 hi' hz0 hz1 hz2 rfl (by decide) _ _ _ rfl (G0o.alloc _) ⟨_,0,none⟩ 1 1 [.string ⟨#[39,108,97,115,116,39]⟩] rfl rfl (World.news_of_block (heap_alloc_new _ _)) (fun x hx=>by simp at hx;subst hx;rfl) (by unfold maxLen;omega) (by omega) (by simp;omega) ?_;intro v6 w6 own6 hg6 hn6 hob6;clear hi' hz0 hz1 hz2)
             have N6:=(G1.out _ _ _ HG1.out).2 _ w6 v6 own6 hg6
             obtain⟨a6,k6,rfl⟩:=owns_slice own6
             have eG:gotS (hdQ l i) []=xs1++[.string ⟨#[39,108,97,115,116,39]⟩]:=by rw[GS.out.1,if_pos hb,SL.out]
             have eS:stpQ l i=true:=by rw[GS.out.2,hb,ha];rfl
             go_meet
             exact⟨a6,k6,by rw[eG,List.length_append];rfl,by first | (rw[eS];done) | (rw[eS,show ((m2:Int)==1)=false by simpa using Ai]),by rw[eG];exact N6⟩
            ·have Ai:¬ (m2:Int)=1:=by omega
             have ha:h1b k=false:=K1.out.2.1 A
             go_wp2_with (at_builtin;obtain⟨i0,hi',hz0,hz1,hz2⟩:=info_parts Tryz.infoStringB;refine wpList_append_own_at _ rfl _ _ 26 rfl X0.heap.size 9 i0 _ 1 16 underlying26 hi' hz0 hz1 hz2 rfl (by decide) _ _ _ rfl (G0o.alloc _) ⟨_,0,none⟩ 1 1 [.string ⟨#[39,108,97,115,116,39]⟩] rfl rfl (World.news_of_block (heap_alloc_new _ _)) (fun x hx=>by simp at hx;subst hx;rfl) (by unfold maxLen;omega) (by omega) (by simp;omega) ?_;intro v6 w6 own6 hg6 hn6 hob6;clear hi' hz0 hz1 hz2)
             have N6:=(G1.out _ _ _ HG1.out).2 _ w6 v6 own6 hg6
             obtain⟨a6,k6,rfl⟩:=owns_slice own6
             have eG:gotS (hdQ l i) []=xs1++[.string ⟨#[39,108,97,115,116,39]⟩]:=by rw[GS.out.1,if_pos hb,SL.out]
             have eS:stpQ l i=false:=by rw[GS.out.2,hb,ha];rfl
             go_meet
             exact⟨a6,k6,by rw[eG,List.length_append];rfl,by first | (rw[eS];done) | (rw[eS,show ((m2:Int)==1)=false by simpa using Ai]),by rw[eG];exact N6⟩
           ·have Bi:¬ (3:Int)<(m6:Int):=by omega
            have hb:h2b k=false:=K1.out.2.2.2 B
            have eG:gotS (hdQ l i) []=xs1:=by rw[GS.out.1,if_neg (by rw[hb];simp),List.append_nil]
            have eS:stpQ l i=false:=by rw[GS.out.2,hb];rfl
            go_wp2_with fail
            go_meet
            exact⟨ga,gc,by rw[eG],by rw[eS],by rw[eG];exact HG1.out⟩
           --@E7
          case rest =>
           obtain⟨ga2,gc2,rfl,rfl,hG⟩:=hcut
           have HG2:Hid _:=hG
           clear hG HG1 GS SL G1
           have hLn:(hdQ l i).length≤2:=by
            rw[hdq.out.1]
            unfold hdsL
            cases h1b k<;>cases h2b k<;>simp
           have gl:∀pre,(gotS (hdQ l i) pre).length=(hdQ l i).length:=fun pre=>by simp[gotS]
           rw[gl] at HG2 ⊢
           obtain⟨L,hL⟩:∃L,L=hdQ l i:=⟨_,rfl⟩
           rw[←hL] at HG2 hLn
           have eL2:(hdQ l i).length=L.length:=by rw[hL]
           rw[eL2]
           have TZ:Hid (∀q,q<n→tgsZ l (q+1)=(if tgb (l.getD q 0) then [decide (q % 2=1)] else [])++tgsZ l q):=fun q hq=>by
            have ho:ownT l q=if tgb (l.getD q 0) then [decide (q % 2=1)] else []:=by
             unfold ownT
             rw[dif_pos (by omega),List.getD_eq_getElem?_getD,List.getElem?_eq_getElem (by omega)]
             rfl
            rw[←ho]
            cases q with
            | zero=>simp[tgsZ,tgsB]
            | succ q=>rfl
           have hLi:(L.length:Int)≤2:=by omega
           have HLd:Hid (L=hdQ l i):=hL
           have GLN:Hid (∀pre,(gotS L pre).length=L.length):=fun pre=>by simp[gotS]
           clear hL eL2 gl
           go_upto_block 8 with fail
           go_cut [26] (fun jv wx=>GtI X0 wx (.slice ga2 L.length gc2) (gotS L (tgsZ l (i+1))))
           case first =>
            --@F5
            go_wp2_with fail
            go_loopg [26] (i+1) (fun gh jv wr=>∃(q:Nat) (pre:List Bool),gh=q∧jv=.int .i64 ((q:Int)-1)∧q≤i+1∧Aside (GtI X0 wr (.slice ga2 L.length gc2) (gotS L pre)∧tgsZ l (i+1)=pre++tgsZ l q))
            case atStart=>exact⟨i+1,[],rfl,by go_num,Nat.le_refl _,(show _∧_ from ⟨HG2.out,rfl⟩)⟩
            case round =>
             obtain⟨q,pre,hgh,rfl,hq,hA5⟩:=hrel
             have hgh:=hgh.symm
             subst hgh
             by_cases hq0:0<q
             ·obtain⟨p,rfl⟩:∃p,q=p+1:=⟨q-1,by omega⟩
              have ep':(((p+1:Nat):Int)-1)=(p:Int):=by omega
              rw[ep']
              have hpi:(p:Int)<(n:Int):=by omega
              have hTZ:=TZ.out p (by omega)
              have bX:Below w4.heap.size w4 wr:=by
               have h0:=HA.out.1.bel
               rw[←HX0.out] at h0
               exact h0.trans (hA5.out.1.bel.mono h0.size)
              obtain⟨hcp,hp12⟩:=HCL.out wr bX p (by omega)
              generalize l.getD p 0=kp at *
              have e4:Int.tmod ((kp:Nat):Int) 4=((kp % 4:Nat):Int):=(show ∀x:Fin 12,Int.tmod ((x.1:Nat):Int) 4=((x.1 % 4:Nat):Int) by decide) ⟨kp,hp12⟩
              have epp:Int.tmod ((p:Nat):Int) 2=((p % 2:Nat):Int):=(show ∀x:Fin 10,Int.tmod ((x.1:Nat):Int) 2=((x.1 % 2:Nat):Int) by decide) ⟨p,by omega⟩
              obtain⟨m4,hm4⟩:∃m4,m4=kp % 4:=⟨_,rfl⟩
              have KT:Hid ((1<m4→tgb kp=true)∧(¬ 1<m4→tgb kp=false)):=⟨fun h=>by rw[hm4] at h;simp[tgb,h],fun h=>by rw[hm4] at h;simp[tgb,h]⟩
              rw[←hm4] at e4
              have HTZ:Hid _:=hTZ
              have HA5:Hid _:=hA5.out
              clear hm4 hTZ hA5 bX TZ HG2 hq0 ep'
              by_cases C:1<m4
              ·have Ci:(1:Int)<(m4:Int):=by omega
               have ht:tgb kp=true:=KT.out.1 C
               obtain⟨bb,hbb⟩:∃bb,bb=decide (p % 2=1):=⟨_,rfl⟩
               obtain⟨pm,hpm⟩:∃pm,pm=p % 2:=⟨_,rfl⟩
               have hpm2:pm<2:=by omega
               have hbp:bb=decide (pm=1):=by rw[hbb,hpm]
               rw[←hpm] at epp
               have PL:Hid (pre.length≤11):=by
                have h1:=congrArg List.length HA5.out.2
                have h2:=tgsB_len l i
                rw[List.length_append] at h1
                have h3:(tgsZ l (i+1)).length=(tgsB l i).length:=rfl
                show pre.length≤11
                omega
               have WL:Hid (∀r,r<L.length→∃sr:List UInt8,(gotS L pre)[r]?=some (.string ⟨sr.toArray⟩)∧sr.length≤2000∧(gotS L (pre++[bb]))[r]?=some (.string ((⟨#[40,39]⟩:ByteArray)++bsA (taC bb)++⟨#[39,32]⟩++⟨sr.toArray⟩++⟨#[41]⟩))):=fun r hr=>by
                have hw:=hdQ_wt l i (L[r]) (by rw[←HLd.out];exact List.getElem_mem hr)
                have hfi:=(hdQ_fine l i (by omega)).2 (L[r]) (by rw[←HLd.out];exact List.getElem_mem hr)
                have hpl:=PL.out
                refine⟨wrV (wrapB pre (L[r]).msg),?_,?_,?_⟩
                ·simp[gotS,strW,List.getElem?_eq_getElem hr]
                ·have h1:=(msg_wrap (buE l) pre (L[r]).msg (by omega)).2
                 have h2:okV (wrapB pre (L[r]).msg):=ok_wrap _ _ hfi.1
                 have h3:=wrV_len _ h2
                 omega
                ·simp only[gotS,List.getElem?_map,List.getElem?_eq_getElem hr,Option.map_some,strW,wr_snoc]
                 refine congrArg some (congrArg Value.string ?_)
                 apply ByteArray.ext
                 simp[bsA]
               have HBB:Hid (bb=decide (p % 2=1)):=hbb
               have ST6:Hid (∀r wr',r<L.length→GtI X0 wr' (.slice ga2 L.length gc2) ((gotS L (pre++[bb])).take r++(gotS L pre).drop r)→∃gg,ga2=some ⟨gg,0,none⟩∧L.length≤gc2∧gc2≤9223372036854775807∧gg<wr'.heap.size∧wr'.cell? ⟨gg,r,none⟩=(gotS L pre)[r]?∧wr'.frozen? ⟨gg,r,none⟩=false∧∀X u,Below wr'.heap.size wr' X→(gotS L (pre++[bb]))[r]?=some u→GtI X0 (X.setCell ⟨gg,r,none⟩ u) (.slice ga2 L.length gc2) ((gotS L (pre++[bb])).take (r+1)++(gotS L pre).drop (r+1))):=fun r wr' hr hG=>by
                have l1:=GLN.out pre
                have l2:=GLN.out (pre++[bb])
                obtain⟨gg,a1,a2,a3,a4,a5,a7,a6⟩:=gt_at hG (by rw[List.length_append,List.length_take,List.length_drop];omega) hr
                refine⟨gg,a1,a2,a3,a4,?_,a7,fun X u hX hu=>?_⟩
                ·rw[a5,List.getElem?_append_right (by rw[List.length_take];omega),List.length_take,List.getElem?_drop]
                 congr 1
                 omega
                ·rw[←set_mid (by omega) (by omega) hu]
                 exact a6 X u hX
               have FI6:Hid (∀wr',GtI X0 wr' (.slice ga2 L.length gc2) ((gotS L (pre++[bb])).take L.length++(gotS L pre).drop L.length)→GtI X0 wr' (.slice ga2 L.length gc2) (gotS L (pre++[bb]))∧tgsZ l (i+1)=(pre++[bb])++tgsZ l p):=fun wr' hG=>by
                have l1:=GLN.out pre
                have l2:=GLN.out (pre++[bb])
                rw[List.take_of_length_le (by omega),List.drop_of_length_le (by omega),List.append_nil] at hG
                refine⟨hG,?_⟩
                have e:=HA5.out.2
                rw[HTZ.out,if_pos ht,←HBB.out] at e
                rw[e]
                simp
               have HA6:Hid _:=HA5.out.1
               clear hbb hpm HA5 HTZ
               go_wp2_with fail
               go_loopg [27] L.length (fun gh rv wr=>∃r:Nat,gh=L.length-r∧rv=.int .i64 ((r:Nat):Int)∧r≤L.length∧Aside (GtI X0 wr (.slice ga2 L.length gc2) ((gotS L (pre++[bb])).take r++(gotS L pre).drop r)))
               case atStart=>exact⟨0,by omega,rfl,Nat.zero_le _,(show GtI _ _ _ _ from by simpa using HA6.out)⟩
               case round =>
                obtain⟨r,rfl,rfl,hr,hG6⟩:=hrel
                by_cases hrl:r<L.length
                ·have hri:(r:Int)<(L.length:Int):=by omega
                 obtain⟨gg,rfl,g1,g2,g3,g4,g5,NX⟩:=ST6.out r _ hrl hG6.out
                 obtain⟨sr,w1',w2',w3'⟩:=WL.out r hrl
                 rw[w1'] at g4
                 have NX2:Hid _:=fun o=>(NX wr _ (Below.refl _ _) w3').below (wr':=(World.alloc _ o).drew) ((below1 _ o).drew)
                 have g1i:(L.length:Int)≤(gc2:Int):=by omega
                 have g2i:(gc2:Int)≤9223372036854775807:=by omega
                 have sri:(sr.length:Int)≤2000:=by omega
                 clear NX w1' w3' hG6 ST6 WL HA6 FI6
                 rcases pm with _ | _ | pm
                 ·have hb0:bb=false:=by rw[hbp];rfl
                  rw[hb0] at NX2
                  go_wp2_with fail
                  go_region
                  go_wp2_with fail
                  go_roundg (L.length-(r+1))
                  case measure=>omega
                  case rel=>exact⟨r+1,rfl,by go_num,by omega,(show GtI _ _ _ _ from by rw[hb0];exact NX2.out _)⟩
                 ·have hb0:bb=true:=by rw[hbp];rfl
                  rw[hb0] at NX2
                  go_wp2_with fail
                  go_region
                  go_wp2_with fail
                  go_roundg (L.length-(r+1))
                  case measure=>omega
                  case rel=>exact⟨r+1,rfl,by go_num,by omega,(show GtI _ _ _ _ from by rw[hb0];exact NX2.out _)⟩
                 ·omega
                ·have hre:r=L.length:=by omega
                 subst hre
                 have F:=FI6.out _ hG6.out
                 have HF:Hid _:=F
                 clear F hG6 ST6 WL HA6 FI6
                 go_wp2_with fail
                 go_roundg p
                 case measure=>omega
                 case rel=>exact⟨p,pre++[bb],rfl,by go_num,by omega,(show _∧_ from HF.out)⟩
              ·have Ci:¬ (1:Int)<(m4:Int):=by omega
               have ht:tgb kp=false:=KT.out.2 C
               have FI:Hid (GtI X0 wr (.slice ga2 L.length gc2) (gotS L pre)∧tgsZ l (i+1)=pre++tgsZ l p):=by
                refine⟨HA5.out.1,?_⟩
                have e:=HA5.out.2
                rw[HTZ.out,if_neg (by rw[ht];simp),List.nil_append] at e
                exact e
               clear HA5 HTZ
               go_wp2_with fail
               go_roundg p
               case measure=>omega
               case rel=>exact⟨p,pre,rfl,by go_num,by omega,(show _∧_ from FI.out)⟩
             ·have hq00:q=0:=by omega
              subst hq00
              have FI:Hid (GtI X0 wr (.slice ga2 L.length gc2) (gotS L (tgsZ l (i+1)))):=by
               have e:=hA5.out.2
               simp only[tgsZ,List.append_nil] at e
               show GtI _ _ _ (gotS L (tgsB l i))
               rw[e]
               exact hA5.out.1
              clear hA5 HG2
              go_wp2_with fail
              go_meet
              exact FI.out
            --@E5
           case rest =>
            have HG3:Hid _:=hcut
            clear hcut HG2
            obtain⟨ms,hms⟩:∃ms,ms=lvM l i:=⟨_,rfl⟩
            have eGM:gotS L (tgsZ l (i+1))=ms.map strW:=by
             rw[hms,HLd.out]
             unfold gotS lvM
             rw[List.map_map]
             rfl
            have eML:L.length=ms.length:=by
             rw[hms,HLd.out]
             unfold lvM
             rw[List.length_map]
            have hAL:LwI w4 X0 tt (.slice pa tt pc) (.slice wa acc.length wcp) acc∧wantD l tt=acc++wantZ l (i+1):=by
             have h1:=HA.out
             rw[←HX0.out] at h1
             exact h1
            have hal:acc.length≤22:=by
             have h1:=congrArg List.length hAL.2
             have h2:=wantD_len l tt
             rw[List.length_append] at h1
             omega
            rw[eGM,eML] at HG3
            have hAc:=hAL.1.below HG3.out.bel
            have ownW:=hAc.wnt
            have wsz:=hAc.bel.size
            have sgG:SegAt wc TT 9 1 (.slice ga2 ms.length gc2) ms.length (ms.map strW):=by
             have h1:=HG3.out.own
             rw[List.length_map] at h1
             exact (SegAt.of_row (RowAt.of_owns h1)).weaken fun _ _=>trivial
            have onG:∀u∈ms.map strW,u.oneCell'=true:=fun u hu=>by
             rw[List.mem_map] at hu
             obtain⟨x,_,rfl⟩:=hu
             rfl
            have NX4:Hid (∀w' v',w'.ownsRow w4.heap.size 9 1 v' (acc.length+ms.length) (acc.map strW++ms.map strW)→wc.grownBy w' (Value.slice wa acc.length wcp).ownBlock→LwI w4 w' tt (.slice pa tt pc) v' (acc++ms)∧wantD l tt=(acc++ms)++(if stpQ l i then [] else wantZ l i)):=fun w' v' ho hg=>by
             refine⟨lw_step hAL.1 HG3.out ho hg,?_⟩
             rw[hAL.2,wantZ_succ,hms,List.append_assoc]
            have hmli:(ms.length:Int)≤2:=by omega
            rw[eML]
            clear hAL hAc HG3 HA hms eGM TZ HLd GLN
            go_wp2_with (at_builtin;obtain⟨i0,hi',hz0,hz1,hz2⟩:=info_parts Tryz.infoStringB;refine wpList_append_seg rfl _ _ 26 rfl w4.heap.size 9 i0 _ 1 16 underlying26 hi' hz0 hz1 hz2 rfl (by decide) _ _ _ rfl ownW _ ms.length (ms.map strW) rfl sgG onG (by unfold maxLen;omega) (by omega) wsz ?_;intro v6 w6 own6 hg6 hob6;clear hi' hz0 hz1 hz2;have N6:=NX4.out w6 v6 own6 hg6;obtain⟨a6,k6,rfl⟩:=owns_slice own6;have HN6:Hid _:=N6;clear N6 own6 hg6 hob6)
            go_roundg i
            case measure=>omega
            case rel=>exact⟨i,acc++ms,stpQ l i,a6,k6,rfl,by rw[List.length_append],rfl,by go_num,by omega,(show _∧_ from HN6.out)⟩
       ·have hj00:j=0:=by omega
        subst hj00
        have FI:Hid (acc=wantD l tt∧LwI w4 wr tt (.slice pa tt pc) (.slice wa acc.length wcp) acc):=by
         have e:=hA.out.2
         have e0:(if st=true then [] else wantZ l 0)=[]:=by cases st<;>rfl
         rw[e0,List.append_nil] at e
         exact⟨e.symm,hA.out.1⟩
        clear hA W0 ST4
        go_wp2_with fail
        go_meet
        exact⟨wa,wcp,by rw[FI.out.1],by rw[←FI.out.1];exact FI.out.2⟩
      --@E4
     case rest =>
      obtain⟨wa,wcp,rfl,hLw⟩:=hcut
      have T0:Hid (TlI w ab l tt (.slice pa tt pc) (.slice wa (wantD l tt).length wcp) (wantD l tt) wc [] 0 (.lst [])):=by
       have h1:=HM.out
       have h2:=h1.bu.lt
       have h3:=h1.bel.size
       exact⟨h1.bel.trans (hLw.bel.mono h3),h1.hab,h1.bu.below hLw.bel,owns_mono hLw.pth h2,owns_mono hLw.wnt h2⟩
      have hWl:(wantD l tt).length≤22:=by have:=wantD_len l tt;omega
      have hWi:((wantD l tt).length:Int)≤22:=by omega
      have htl:tt≤l.length:=by omega
      have hWok:Hid (∀v∈wantD l tt,okV v∧wtV v≤40):=fun v hv=>by
       have:=want_ok l tt (by omega) v hv
       exact⟨this.1,by omega⟩
      obtain⟨W,hW⟩:∃W,W=wantD l tt:=⟨_,rfl⟩
      have HW:Hid (W=wantD l tt):=hW
      rw[←hW] at T0 hWl hWi hWok ⊢
      have hmo:pickA ex 13≤12:=by have:=pickA_lt (c:=ex) (n:=13) (by omega);omega
      have CPM:Hid (∀X,Calls prog 10 #[.int .i64 ex,.int .i64 13] X fun e w'=>e=.returned (.int .i64 ((pickA ex 13:Nat):Int))∧w'=X):=fun X=>pick_any ex 13 X hex (by omega) (by omega)
      generalize pickA ex 13=mo at *
      have hmoi:(mo:Int)≤12:=by omega
      clear hW hLw HM HP W0 ST4
      go_upto_block 12 with (go_at_call 10;refine (CPM.out _).mono ?_;rintro e w5 ⟨rfl,rfl⟩;clear CPM)
      go_cut [29] (fun iv wx=>TlI w ab l tt (.slice pa tt pc) (.slice wa W.length wcp) W wx (List.replicate mo (.txt xW)) 0 (.lst []))
      case first =>
       --@F8
       go_wp2_with fail
       go_loopg [29] mo (fun gh iv wr=>∃i:Nat,gh=mo-i∧iv=.int .i64 ((i:Nat):Int)∧i≤mo∧Aside (TlI w ab l tt (.slice pa tt pc) (.slice wa W.length wcp) W wr (List.replicate i (.txt xW)) 0 (.lst [])))
       case atStart=>exact⟨0,by omega,rfl,Nat.zero_le _,(show TlI _ _ _ _ _ _ _ _ _ _ _ from T0.out)⟩
       case round =>
        obtain⟨i,rfl,rfl,hi,hA⟩:=hrel
        by_cases hlt:i<mo
        ·have hii:(i:Int)<(mo:Int):=by omega
         have HA:Hid _:=hA.out
         have CS:=bsend_ok HA.out.bu (by rw[List.length_replicate];omega)
         clear hA T0
         go_wp2_with (go_at_call 19;refine CS.mono ?_;rintro e w5 ⟨rfl,hb5,hk5,hs5⟩;have N5:=HA.out.step hb5 hk5 hs5;have HN:Hid _:=N5;clear N5 hb5 hk5 hs5 CS)
         go_roundg (mo-(i+1))
         case measure=>omega
         case rel=>exact⟨i+1,rfl,by go_num,by omega,(show TlI _ _ _ _ _ _ _ _ _ _ _ from by rw[List.replicate_succ'];exact HN.out)⟩
        ·have hie:i=mo:=by omega
         subst hie
         have HA:Hid _:=hA.out
         clear hA T0
         go_wp2_with fail
         go_meet
         exact HA.out
       --@E8
      case rest =>
       have T1:Hid _:=hcut
       clear hcut T0
       obtain⟨nn,q1,d1,hq1⟩:∃nn q1 d1,nn=(if mo+W.length≤12 then W.length else 0)∧q1=(if mo+W.length≤12 then List.replicate mo (.txt xW)++W else List.replicate mo (.txt xW))∧d1=(if mo+W.length≤12 then 0 else 1):=⟨_,_,_,rfl,rfl,rfl⟩
       have Q1:Hid _:=hq1
       clear hq1
       have q1l:q1.length≤12:=by
        rw[Q1.out.2.1]
        split
        ·rw[List.length_append,List.length_replicate];omega
        ·rw[List.length_replicate];exact hmo
       have d1l:d1≤10:=by
        rw[Q1.out.2.2]
        split<;>omega
       have nnl:nn≤12:=by
        rw[Q1.out.1]
        split<;>omega
       have SEG:Hid (∀X q d m,TlI w ab l tt (.slice pa tt pc) (.slice wa W.length wcp) W X q d m→SegAt X TT 3 1 (.slice pa tt pc) tt (List.replicate tt (.int .i64 1))):=fun X q d m h=>(SegAt.of_row (RowAt.of_owns h.pth)).weaken fun _ _=>trivial
       have CE1:Calls prog 23 #[.pointer (some ⟨ab,0,none⟩),.slice pa tt pc,.string ⟨#[103,111]⟩] wc fun e w'=>e=.returned (.tuple #[.int .i64 ((nn:Nat):Int),.nilIface])∧TlI w ab l tt (.slice pa tt pc) (.slice wa W.length wcp) W w' q1 d1 (.lst []):=by
        refine (bev_ok hl10 hd T1.out.bu (by omega) htl (SEG.out _ _ _ _ T1.out)).mono fun e w' ⟨he,hb,hk,hs⟩=>?_
        rw[←HW.out,List.length_replicate] at he hs
        rw[←Q1.out.1] at he
        rw[←Q1.out.2.1,show (if mo+W.length≤12 then 0 else 0+1)=d1 by rw[Q1.out.2.2]] at hs
        exact⟨he,T1.out.step hb hk hs⟩
       have CE2:Hid (∀X v',TlI w ab l tt (.slice pa tt pc) (.slice wa W.length wcp) W X q1 d1 (.lst [])→X.ownsRow (ab+1) 3 1 v' (tt+2) (List.replicate tt (.int .i64 1)++[.int .i64 0,.int .i64 0])→Calls prog 23 #[.pointer (some ⟨ab,0,none⟩),v',.string ⟨#[103,111]⟩] X fun e w'=>∃j:Nat,e=.returned (.tuple #[.int .i64 0,nnV j])∧TlI w ab l tt (.slice pa tt pc) (.slice wa W.length wcp) W w' q1 d1 (.lst [])):=fun X v' hX ho=>by
        refine (bno_ok hX.bu htl (by omega) ((SegAt.of_row (RowAt.of_owns ho)).weaken fun _ _=>trivial)).mono fun e w' ⟨j,he,hb,hk,hs⟩=>⟨j,he,hX.step hb hk hs⟩
       have CE3:Hid (∀X,TlI w ab l tt (.slice pa tt pc) (.slice wa W.length wcp) W X q1 d1 (.lst [])→Calls prog 23 #[.pointer (some ⟨ab,0,none⟩),.slice pa tt pc,.string ⟨#[99,111,109,101]⟩] X fun e w'=>e=.returned (.tuple #[.int .i64 0,.nilIface])∧TlI w ab l tt (.slice pa tt pc) (.slice wa W.length wcp) W w' q1 d1 (.lst [])):=fun X hX=>by
        refine (bcome_ok hl10 hd hX.bu d1l q1l htl (SEG.out _ _ _ _ hX)).mono fun e w' ⟨he,hb,hk,hs⟩=>⟨he,hX.step hb hk hs⟩
       clear T1
       go_upto_region 66 with (go_at_call 23;refine CE1.mono ?_;rintro e w6 ⟨rfl,hT2⟩;have T2:Hid _:=hT2;clear hT2 CE1)
       have o1:=T2.out.pth
       have o2:ab+1≤w6.heap.size:=T2.out.bu.lt
       have GR:Hid (∀o w',(w6.alloc o).grownBy w' (Value.slice pa tt pc).ownBlock→w'.ownsRow (ab+1) 3 1 (.slice pa tt pc) tt (List.replicate tt (.int .i64 1))→TlI w ab l tt (.slice pa tt pc) (.slice wa W.length wcp) W w' q1 d1 (.lst [])):=fun o w' hg hp=>T2.out.grow hg hp
       clear T2
       go_upto_region 67 with (first
        |(at_builtin;obtain⟨i0,hi',hz0,hz1,hz2⟩:=info_parts Tryz.infoIntO;refine wpList_append_keep rfl _ _ 22 rfl (ab+1) 3 i0 _ 1 8 underlying22 hi' hz0 hz1 hz2 rfl (by decide) _ _ _ rfl (o1.alloc _) ⟨_,0,none⟩ 2 2 [.int .i64 0,.int .i64 0] rfl rfl (World.news_of_block (heap_alloc_new _ _)) (fun x hx=>by simp at hx;subst hx;rfl) (by unfold maxLen;omega) (by omega) (by simp;omega) ?_;intro v7 w7 own7 hg7 hp7;clear hi' hz0 hz1 hz2;have hT3:=GR.out _ _ hg7 hp7;have CE2b:=CE2.out _ _ hT3 own7;obtain⟨a7,k7,rfl⟩:=owns_slice own7;clear GR CE2 hT3 own7 hg7 hp7)
        |(go_at_call 23;refine CE2b.mono ?_;rintro e w8 ⟨jn,rfl,hT4⟩;have T4:Hid _:=hT4;clear hT4 CE2b))
       have CE3b:=CE3.out _ T4.out
       clear CE3 T4 o1 o2 SEG
       go_upto_region 68 with (go_at_call 23;refine CE3b.mono ?_;rintro e w9 ⟨rfl,hT5⟩;have T5:Hid _:=hT5;clear hT5 CE3b)
       have hP9:=Below.cellv T5.out.bel hP
       have CI:=is_nn jn aP w9 hP9
       unfold errVal at hP9 CI
       go_upto_block 14 with (go_at_call 12;refine CI.mono ?_;rintro e w10 ⟨rfl,hb10⟩;have hT6:=T5.out.below hb10;have T6:Hid _:=hT6;clear hT6 hb10 CI hP9)
       have XL:Hid (∀i,i≤mo→(mtx (List.replicate i (.txt xW))).length≤12000):=fun i hi=>by
        refine mtx_len (fun v hv=>?_) (by rw[List.length_replicate];omega)
        rw[List.eq_of_mem_replicate hv]
        exact⟨by rw[okV];trivial,by decide⟩
       have X1:Hid ((⟨#[40]⟩:ByteArray)++⟨#[39,120,39]⟩=⟨(mtx (List.replicate 1 (.txt xW))).toArray⟩):=mtx_first (q:=[]) rfl (.txt xW)
       have XN:Hid (∀i,0<i→(⟨(mtx (List.replicate i (.txt xW))).toArray⟩:ByteArray)++⟨#[32]⟩++⟨#[39,120,39]⟩=⟨(mtx (List.replicate (i+1) (.txt xW))).toArray⟩):=fun i hi=>by
        rw[List.replicate_succ']
        exact mtx_next (q:=List.replicate i (.txt xW)) (fun e=>by have:=congrArg List.length e;simp at this;omega) (.txt xW)
       go_cut [37,38] (fun sv iv wx=>sv=.string ⟨(mtx (List.replicate mo (.txt xW))).toArray⟩∧TlI w ab l tt (.slice pa tt pc) (.slice wa W.length wcp) W wx q1 d1 (.lst []))
       case first =>
        --@F9
        go_wp2_with fail
        go_loopg [37,38] mo (fun gh sv iv wr=>∃i:Nat,gh=mo-i∧sv=.string ⟨(mtx (List.replicate i (.txt xW))).toArray⟩∧iv=.int .i64 ((i:Nat):Int)∧i≤mo∧Aside (TlI w ab l tt (.slice pa tt pc) (.slice wa W.length wcp) W wr q1 d1 (.lst [])))
        case atStart=>exact⟨0,by omega,rfl,rfl,Nat.zero_le _,(show TlI _ _ _ _ _ _ _ _ _ _ _ from T6.out)⟩
        case round =>
         obtain⟨i,rfl,rfl,rfl,hi,hA⟩:=hrel
         have HA:Hid _:=hA.out
         clear hA T6 T5
         by_cases hlt:i<mo
         ·have hii:(i:Int)<(mo:Int):=by omega
          have hxl:=XL.out i hi
          have hxli:((mtx (List.replicate i (.txt xW))).length:Int)≤12000:=by omega
          by_cases h0:0<i
          ·have h0i:(0:Int)<(i:Int):=by omega
           have hx:=XN.out i h0
           have HX:Hid _:=hx
           clear hx XN X1 XL
           go_wp2_with fail
           go_roundg (mo-(i+1))
           case measure=>omega
           case rel=>exact⟨i+1,rfl,by rw[HX.out],by go_num,by omega,(show TlI _ _ _ _ _ _ _ _ _ _ _ from HA.out)⟩
          ·have h00:i=0:=by omega
           subst h00
           clear XN XL
           go_wp2_with fail
           go_roundg (mo-1)
           case measure=>omega
           case rel=>exact⟨1,rfl,by rw[←X1.out];rfl,by go_num,by omega,(show TlI _ _ _ _ _ _ _ _ _ _ _ from HA.out)⟩
         ·have hie:i=mo:=by omega
          subst hie
          clear XN X1 XL
          go_wp2_with fail
          go_meet
          exact⟨rfl,HA.out⟩
        --@E9
       case rest =>
        obtain⟨rfl,hT7⟩:=hcut
        have T7:Hid _:=hT7
        have CC:=bcounts_ok T7.out.bu
        clear hT7 T6 T5 X1 XN
        have q1g:Hid (∀v∈q1,okV v∧wtV v≤40):=fun v hv=>by
         rw[Q1.out.2.1] at hv
         have hx:∀v∈List.replicate mo (.txt xW),okV v∧wtV v≤40:=fun v hv=>by
          rw[List.eq_of_mem_replicate hv]
          exact⟨by rw[okV];trivial,by decide⟩
         split at hv
         ·rcases List.mem_append.1 hv with hv | hv
          ·exact hx v hv
          ·exact hWok.out v hv
         ·exact hx v hv
        by_cases hfit:mo+W.length≤12
        ·have e1:nn=W.length:=by rw[Q1.out.1,if_pos hfit]
         have e4:q1=List.replicate mo (.txt xW)++W:=by rw[Q1.out.2.1,if_pos hfit]
         have e2:((q1.length:Nat):Int)=(mo:Int)+(W.length:Int):=by rw[e4,List.length_append,List.length_replicate];omega
         have e3:d1=0:=by rw[Q1.out.2.2,if_pos hfit]
         subst e1 e3
         rw[e2] at CC
         have hfi:¬ (12:Int)-(mo:Int)<(W.length:Int):=by omega
         clear Q1
         go_upto_block 16 with (first
          |(go_at_call 24;refine CC.mono ?_;rintro e w11 ⟨⟨ca,cb,cc,rfl⟩,hb11,hk11,hs11⟩;have hT8:=T7.out.step hb11 hk11 hs11;have T8:Hid _:=hT8;clear hT8 hb11 hk11 hs11 CC T7))
         have T9:Hid (∀o,TlI w ab l tt (.slice pa tt pc) (.slice wa W.length wcp) W (w11.alloc o) q1 0 (.lst [])):=fun o=>T8.out.below (below1 _ o)
         clear T8
         have ML:Hid (∀i,i≤W.length→(mtx (List.replicate mo (.txt xW)++W.take i)).length≤12000):=fun i hi=>by
          refine mtx_len (fun v hv=>q1g.out v ?_) (by rw[List.length_append,List.length_replicate,List.length_take];omega)
          rw[e4]
          rcases List.mem_append.1 hv with hv | hv
          ·exact List.mem_append_left _ hv
          ·exact List.mem_append_right _ (List.mem_of_mem_take hv)
         have TK:∀i (hi:i<W.length),(List.replicate mo (.txt xW)++W.take i)++[W[i]]=List.replicate mo (.txt xW)++W.take (i+1):=fun i hi=>by
          rw[List.append_assoc,List.take_add_one,List.getElem?_eq_getElem hi]
          rfl
         have MF:Hid (∀i (hi:i<W.length),¬ 0<mo+i→(⟨(mtx (List.replicate mo (.txt xW)++W.take i)).toArray⟩:ByteArray)++⟨(wrV W[i]).toArray⟩=⟨(mtx (List.replicate mo (.txt xW)++W.take (i+1))).toArray⟩):=fun i hi h0=>by
          rw[←TK i hi]
          exact mtx_first (List.eq_nil_of_length_eq_zero (by rw[List.length_append,List.length_replicate,List.length_take];omega)) _
         have MN:Hid (∀i (hi:i<W.length),0<mo+i→(⟨(mtx (List.replicate mo (.txt xW)++W.take i)).toArray⟩:ByteArray)++⟨#[32]⟩++⟨(wrV W[i]).toArray⟩=⟨(mtx (List.replicate mo (.txt xW)++W.take (i+1))).toArray⟩):=fun i hi h0=>by
          rw[←TK i hi]
          exact mtx_next (fun e=>by have:=congrArg List.length e;rw[List.length_append,List.length_replicate,List.length_take,List.length_nil] at this;omega) _
         have M0:Hid (mtx (List.replicate mo (.txt xW))=mtx (List.replicate mo (.txt xW)++W.take 0)):=by rw[List.take_zero,List.append_nil];rfl
         have ME:Hid (mtx (List.replicate mo (.txt xW)++W.take W.length)=mtx q1):=by rw[List.take_length,e4];rfl
         clear TK
         go_cut [37,40] (fun sv iv wx=>sv=.string ⟨(mtx q1).toArray⟩∧TlI w ab l tt (.slice pa tt pc) (.slice wa W.length wcp) W wx q1 0 (.lst []))
         case first =>
          --@FA
          go_wp2_with fail
          go_loopg [37,40] W.length (fun gh sv iv wr=>∃i:Nat,gh=W.length-i∧sv=.string ⟨(mtx (List.replicate mo (.txt xW)++W.take i)).toArray⟩∧iv=.int .i64 ((i:Nat):Int)∧i≤W.length∧Aside (TlI w ab l tt (.slice pa tt pc) (.slice wa W.length wcp) W wr q1 0 (.lst [])))
          case atStart=>exact⟨0,by omega,by rw[M0.out],rfl,Nat.zero_le _,(show TlI _ _ _ _ _ _ _ _ _ _ _ from T9.out _)⟩
          case round =>
           obtain⟨i,rfl,rfl,rfl,hi,hA⟩:=hrel
           have HA:Hid _:=hA.out
           clear hA T9
           by_cases hlt:i<W.length
           ·have hii:(i:Int)<(W.length:Int):=by omega
            have hxl:=ML.out i hi
            obtain⟨g5,ewa,c1,c2,c3⟩:=str_cell HA.out.wnt rfl hlt
            subst ewa
            have c1i:(W.length:Int)≤(wcp:Int):=by omega
            have c2i:(wcp:Int)≤9223372036854775807:=by omega
            have hwl:((wrV W[i]).length:Int)≤1000:=by
             have h1:=hWok.out W[i] (List.getElem_mem hlt)
             have h2:=wrV_len W[i] h1.1
             omega
            by_cases h0:0<mo+i
            ·have h0i:(0:Int)<(mo:Int)+(i:Int):=by omega
             have hx:=MN.out i hlt h0
             have HX:Hid _:=hx
             have hxli:((mtx (List.replicate mo (.txt xW)++W.take i)).length:Int)≤12000:=by omega
             clear hx MN MF ML
             generalize wrV W[i]=sw at *
             generalize mtx (List.replicate mo (.txt xW)++W.take i)=sm at *
             go_wp2_with fail
             go_roundg (W.length-(i+1))
             case measure=>omega
             case rel=>exact⟨i+1,rfl,by rw[HX.out],by go_num,by omega,(show TlI _ _ _ _ _ _ _ _ _ _ _ from HA.out)⟩
            ·have h0i:¬ (0:Int)<(mo:Int)+(i:Int):=by omega
             have hx:=MF.out i hlt h0
             have HX:Hid _:=hx
             have hxli:((mtx (List.replicate mo (.txt xW)++W.take i)).length:Int)≤12000:=by omega
             clear hx MN MF ML
             generalize wrV W[i]=sw at *
             generalize mtx (List.replicate mo (.txt xW)++W.take i)=sm at *
             go_wp2_with fail
             go_roundg (W.length-(i+1))
             case measure=>omega
             case rel=>exact⟨i+1,rfl,by rw[HX.out],by go_num,by omega,(show TlI _ _ _ _ _ _ _ _ _ _ _ from HA.out)⟩
           ·have hie:i=W.length:=by omega
            subst hie
            clear MN MF ML
            go_wp2_with fail
            go_meet
            exact⟨by rw[ME.out],HA.out⟩
          --@EA
         case rest =>
          obtain⟨rfl,hTa⟩:=hcut
          have hwt:1+wtVs q1≤600:=by
           have:=(wts_le q1g.out).2
           omega
          have CPu:=bpump_ok hl10 hd hTa.bu q1l hwt
          rw[e2] at CPu
          have Ta:Hid _:=hTa
          have CMo:Hid (∀X,BuS ab X l [] 0 (.lst q1)→Calls prog 22 #[.pointer (some ⟨ab,0,none⟩)] X fun e w'=>e=.returned (.string ((⟨(mtx q1).toArray⟩:ByteArray)++⟨#[41]⟩))∧Below ab X w'):=fun X hX=>by
           rw[mtx_end]
           exact bmodel_ok hX
          have mql:((mtx q1).length:Int)≤12000:=by
           have:=mtx_len q1g.out q1l
           omega
          clear hTa ML MF MN M0 ME T9 hwt e4 e2
          go_upto_region 89 with (go_at_call 20;refine CPu.mono ?_;rintro e w12 ⟨rfl,hb12,hk12,hs12⟩;have hTb:=Ta.out.step hb12 hk12 hs12;have Tb:Hid _:=hTb;have CM:=CMo.out _ hs12;clear hTb hb12 hk12 hs12 CPu Ta)
          go_wp2_with (go_at_call 22;refine CM.mono ?_;rintro e w13 ⟨rfl,hb13⟩;have FB:Hid (Below w.heap.size w w13):=Tb.out.bel.trans (hb13.mono Tb.out.hab);clear hb13 CM)
          go_ret
          exact⟨rfl,FB.out⟩
        ·have e1:nn=0:=by rw[Q1.out.1,if_neg hfit]
         have e4:q1=List.replicate mo (.txt xW):=by rw[Q1.out.2.1,if_neg hfit]
         have e2:q1.length=mo:=by rw[e4,List.length_replicate]
         have e3:d1=1:=by rw[Q1.out.2.2,if_neg hfit]
         subst e1 e3
         rw[e2] at CC
         have hfi:(12:Int)-(mo:Int)<(W.length:Int):=by omega
         clear Q1
         go_wp2_with (first
          |(go_at_call 24;refine CC.mono ?_;rintro e w11 ⟨⟨ca,cb,cc,rfl⟩,hb11,hk11,hs11⟩;have hT8:=T7.out.step hb11 hk11 hs11;have T8:Hid _:=hT8;clear hT8 hb11 hk11 hs11 CC T7))
         go_ret
         exact⟨rfl,T8.out.bel.alloc T8.out.bel.size _⟩
   ·have h4:=D4.out hd
    have h4i:(4:Int)<(n:Int):=by omega
    go_upto_region 22 with (go_at_call 14;refine ((CN.out _ (by rw[EB.out];kernel_rfl)).2 hd).mono ?_;rintro e w2 ⟨t,y,rfl,a,hga,CI⟩;clear CN)
    unfold errVal at hga CI
    go_wp2_with (go_at_call 12;refine CI.mono ?_;rintro e w3 ⟨rfl,hb3⟩)
    go_ret
    exact⟨rfl,hb3⟩
end Go.Proofs.YtifhgjpglicjbaaGreatDoor
