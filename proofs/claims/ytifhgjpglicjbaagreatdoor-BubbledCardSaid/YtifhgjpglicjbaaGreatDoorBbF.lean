/-
  Bubbled: the levels shown; what an event asks. Plain.
-/
import Derived.Test.YtifhgjpglicjbaaGreatDoorBbO
import Derived.Test.YtifhgjpglicjbaaGreatDoorLawB
import Derived.Test.YtifhgjpglicjbaaGreatDoorLkB
import Derived.Deep.CutBlock
import Derived.Deep.DeepCutAuto
import Derived.BigQuiet
import Derived.ArgAppend
set_option maxHeartbeats 4000000
set_option maxRecDepth 8000
namespace Go.Proofs.YtifhgjpglicjbaaGreatDoor
open Go.Proofs.Tryz
open Go.Lib
def hdsL (i k:Nat):List Hd:=(if h1b k then [⟨goW,.num ((i:Nat):Int),false⟩] else [])++(if h2b k then [⟨goW,.txt lastW,h1b k⟩] else [])
def tgW (i:Nat):List UInt8:=taW (decide (i % 2=1))
def lvN (i:Nat):List Nat→Ln
 | []=>.txt endW
 | k::r=>if tgb k then .tg (tgW i) (.el [100] [] (hdsL i k) [.txt [55],lvN (i+1) r]) else .el [100] [] (hdsL i k) [.txt [55],lvN (i+1) r]
theorem size_lv:∀(r:List Nat) (i:Nat),sizeLn (lvN i r)≤3*r.length+1
 | [],i=>by simp[lvN,sizeLn]
 | k::r,i=>by
  have ih:=size_lv r (i+1)
  rw[lvN]
  split<;>simp[sizeLn,sizeLs]<;>omega
theorem hd_val {i k:Nat}(hi:i<10):∃hs,(hdX i k).val=.lst hs∧attrL [] [] hs=some ([],hdsL i k):=by
 have h1:=(dgt10 ⟨i,hi⟩).2.2
 have h2:=(dgt10 ⟨k % 2,by omega⟩).2.2
 simp only at h1 h2
 have hw:wordN goW=true:=by decide
 have e2:decide (((k % 2:Nat):Int)≠0)=h1b k:=by
  unfold h1b
  by_cases h:k % 2=1
  ·simp[h]
  ·have:k % 2=0:=by omega
   simp[this]
 unfold hdX hdsL
 by_cases a:h1b k=true
 ·by_cases b:h2b k=true
  ·rw[if_pos a,if_pos b]
   refine⟨_,rfl,?_⟩
   simp[SXs.vals,SX.val,hd1,hd2,attrL,attr1,onW,hw,h1,h2,a,b]
   simpa using e2.trans a
  ·rw[if_pos a,if_neg b]
   refine⟨_,rfl,?_⟩
   simp[SXs.vals,SX.val,hd1,attrL,attr1,onW,hw,h1,a,b]
 ·by_cases b:h2b k=true
  ·rw[if_neg a,if_pos b]
   refine⟨_,rfl,?_⟩
   have a':h1b k=false:=by simpa using a
   simp[SXs.vals,SX.val,hd2,attrL,attr1,onW,hw,h2,a',b]
   simpa using e2.trans a'
  ·rw[if_neg a,if_neg b]
   refine⟨_,rfl,?_⟩
   simp[SXs.vals,attrL,a,b]
theorem bu_find (e:Ex)(b:Bool):(findF (buF e) (taW b) 1).isSome=true:=by cases b<;>kernel_rfl
theorem look_el {F:List Fn}(f c z i k:Nat)(s:SX)(N:Ln)(cn:Nat)(hi:i<10)(hc:c+2≤100)(hS:lookA F (f+1) (c+2) z s.val none=some (N,cn,z)):lookA F (f+2) c z (elX i k s).val none=some (.el [100] [] (hdsL i k) [.txt [55],N],cn,z):=by
 obtain⟨hs,e1,e2⟩:=hd_val (k:=k) hi
 have ev:(elX i k s).val=.lst [.txt elW,.txt [100],.lst hs,.lst [.num 7,s.val]]:=by
  simp only[elX,SX.val,SXs.vals,e1]
  rfl
 have hw:wordN [100]=true:=by decide
 have h7:lookA F (f+1) (c+1) z (.num 7) none=some (.txt [55],c+2,z):=by
  rw[lookA,if_neg (by omega),show itoa 7=[55] from by kernel_rfl]
 have eo:∀j,oppA (.el [100]) none j=none:=fun j=>rfl
 rw[ev,lookA,if_neg (by omega)]
 simp[lookX,headV,elW,lookE,elOf,hw,e2,lookL,eo,h7,hS]
theorem look_tg (e:Ex)(f c z i:Nat)(s:SX)(N:Ln)(cn:Nat)(hc:c+1≤100)(hS:lookA (buF e) (f+1) (c+1) z s.val none=some (N,cn,z)):lookA (buF e) (f+2) c z (tgX i s).val none=some (.tg (tgW i) N,cn,z):=by
 have hf:=bu_find e (decide (i % 2=1))
 have eo:oppA .tg none 0=none:=rfl
 have ev:(tgX i s).val=.lst [.txt [116,97,103],.txt (tgW i),s.val]:=rfl
 have hf':(findF (buF e) (tgW i) 1).isSome=true:=hf
 rw[ev,lookA,if_neg (by omega)]
 simp[lookX,headV,lookT,hf',eo,hS]
theorem look_lv (e:Ex):∀(r:List Nat) (i f c z:Nat),i+r.length≤10→c+3*r.length+1≤100→∃cn,cn≤c+3*r.length+1∧lookA (buF e) (f+1+2*r.length) c z (lvX i r).val none=some (lvN i r,cn,z)
 | [],i,f,c,z,_,hc=>⟨c+1,by omega,by
  simp only[lvX,SX.val,lvN,List.length_nil,Nat.mul_zero,Nat.add_zero]
  rw[lookA,if_neg (by simp at hc;omega)]⟩
 | k::r,i,f,c,z,hi,hc=>by
  simp only[List.length_cons] at hi hc
  by_cases hg:tgb k=true
  ·obtain⟨cn,h1,h2⟩:=look_lv e r (i+1) f (c+3) z (by omega) (by omega)
   have e1:f+1+2*(k::r).length=(f+2*r.length+1)+2:=by simp;omega
   have hE:=look_el (F:=buF e) (f+2*r.length) (c+1) z i k (lvX (i+1) r) (lvN (i+1) r) cn (by omega) (by omega) (by rw[show f+2*r.length+1=f+1+2*r.length by omega];exact h2)
   have hT:=look_tg e (f+2*r.length+1) c z i (elX i k (lvX (i+1) r)) _ cn (by omega) hE
   refine⟨cn,by simp only[List.length_cons];omega,?_⟩
   rw[e1,lvX,if_pos hg,lvN,if_pos hg]
   exact hT
  ·obtain⟨cn,h1,h2⟩:=look_lv e r (i+1) (f+1) (c+2) z (by omega) (by omega)
   have e1:f+1+2*(k::r).length=(f+2*r.length+1)+2:=by simp;omega
   have hE:=look_el (F:=buF e) (f+2*r.length+1) c z i k (lvX (i+1) r) (lvN (i+1) r) cn (by omega) (by omega) (by rw[show f+2*r.length+1+1=f+1+1+2*r.length by omega];exact h2)
   refine⟨cn,by simp only[List.length_cons];omega,?_⟩
   rw[e1,lvX,if_neg hg,lvN,if_neg hg]
   exact hE
def LvA:Nat→List Nat→An→Prop
 | _,[],n=>∃b m,n=.txt b m endW
 | i,k::r,n=>∃b m b7 m7 s,LvA (i+1) r s∧(tgb k=true→∃bt,n=.tg bt (tgW i) (.el b m [100] [] (hdsL i k) [.txt b7 m7 [55],s]))∧(tgb k=false→n=.el b m [100] [] (hdsL i k) [.txt b7 m7 [55],s])
theorem made_lv:∀{r:List Nat} {i:Nat} {n:An} {F:List Nat},Made (lvN i r) n F→LvA i r n
 | [],i,n,F,h=>by
  rw[lvN,Made] at h
  obtain⟨b,rfl,_⟩:=h
  exact⟨b,_,rfl⟩
 | k::r,i,n,F,h=>by
  have hel:∀m G,Made (.el [100] [] (hdsL i k) [.txt [55],lvN (i+1) r]) m G→∃b mk b7 m7 s,LvA (i+1) r s∧m=.el b mk [100] [] (hdsL i k) [.txt b7 m7 [55],s]:=fun m G hm=>by
   rw[Made] at hm
   obtain⟨b,ns,G,rfl,_,hm⟩:=hm
   rw[MadeL] at hm
   obtain⟨m1,ms,F1,F2,rfl,_,h1,hm⟩:=hm
   rw[MadeL] at hm
   obtain⟨m2,ms2,F3,F4,rfl,_,h2,hm⟩:=hm
   rw[MadeL] at hm
   obtain⟨rfl,_⟩:=hm
   rw[Made] at h1
   obtain⟨b7,rfl,_⟩:=h1
   exact⟨b,_,b7,_,m2,made_lv h2,rfl⟩
  rw[lvN] at h
  cases hg:tgb k with
  | true =>
   rw[if_pos hg,Made] at h
   obtain⟨bt,m,G,rfl,_,hm⟩:=h
   obtain⟨b,mk,b7,m7,s,h1,rfl⟩:=hel m G hm
   exact⟨b,mk,b7,m7,s,h1,fun _=>⟨bt,rfl⟩,fun e=>by rw[hg] at e;cases e⟩
  | false =>
   rw[if_neg (by rw[hg];simp)] at h
   obtain⟨b,mk,b7,m7,s,h1,rfl⟩:=hel n F h
   exact⟨b,mk,b7,m7,s,h1,(fun e=>by rw[hg] at e;cases e),fun _=>rfl⟩
theorem num_lv:∀{r:List Nat} {i:Nat} {n:An} (g:Nat),LvA i r n→LvA i r (numA n none g).1
 | [],i,n,g,h=>by
  obtain⟨b,m,rfl⟩:=h
  exact⟨b,_,rfl⟩
 | k::r,i,n,g,h=>by
  obtain⟨b,m,b7,m7,s,h1,h2,h3⟩:=h
  have hel:∃m' m7' g',(numA (.el b m [100] [] (hdsL i k) [.txt b7 m7 [55],s]) none g).1=.el b m' [100] [] (hdsL i k) [.txt b7 m7' [55],(numA s none g').1]:=by
   exact⟨⟨g+1,none⟩,⟨g+1+1,none⟩,g+1+1,by simp[numA,numAs,oppA,bareO,markA]⟩
  obtain⟨m',m7',g',he⟩:=hel
  cases hg:tgb k with
  | true =>
   obtain⟨bt,rfl⟩:=h2 hg
   refine⟨b,m',b7,m7',_,num_lv g' h1,fun _=>⟨bt,?_⟩,fun e=>by rw[hg] at e;cases e⟩
   rw[numA,he]
  | false =>
   rw[h3 hg]
   exact⟨b,m',b7,m7',_,num_lv g' h1,(fun e=>by rw[hg] at e;cases e),fun _=>he⟩
def ownT (l:List Nat)(j:Nat):List Bool:=if h:j<l.length then (if tgb l[j] then [decide (j % 2=1)] else []) else []
def tgsB (l:List Nat):Nat→List Bool
 | 0=>ownT l 0
 | j+1=>ownT l (j+1)++tgsB l j
theorem tgsB_len (l:List Nat):∀j,(tgsB l j).length≤j+1
 | 0=>by
  rw[tgsB,ownT]
  split
  ·split<;>simp
  ·simp
 | j+1=>by
  have:=tgsB_len l j
  rw[tgsB,List.length_append,ownT]
  split
  ·split<;>simp<;>omega
  ·simp;omega
def hdQ (l:List Nat)(j:Nat):List Hd:=if h:j<l.length then hdsL j l[j] else []
structure NodeAt (l:List Nat)(j:Nat)(y:An×Tg):Prop where
 tg:y.2=(tgsB l j).map taW
 hd:hdsA y.1=hdQ l j
 kid:∀_h:j<l.length,∃b m s,kidsO (some y.1)=[.txt b m [55],s]∧LvA (j+1) (l.drop (j+1)) s
 no:¬ j<l.length→kidsO (some y.1)=[]
theorem node_of {l:List Nat}{j:Nat}{n:An}(h:LvA j (l.drop j) n)(hj:j≤l.length)(T:Tg)(T0:List Bool)(hT:T=T0.map taW)(hT2:tgsB l j=ownT l j++T0):NodeAt l j (bareA n,tagsA n++T):=by
 by_cases hlt:j<l.length
 ·rw[List.drop_eq_getElem_cons hlt] at h
  obtain⟨b,m,b7,m7,s,h1,h2,h3⟩:=h
  have ho:ownT l j=if tgb l[j] then [decide (j % 2=1)] else []:=by unfold ownT;rw[dif_pos hlt]
  have hh:hdQ l j=hdsL j l[j]:=by unfold hdQ;rw[dif_pos hlt]
  cases hg:tgb l[j] with
  | true =>
   obtain⟨bt,rfl⟩:=h2 hg
   refine⟨?_,hh.symm ▸ rfl,fun _=>⟨b7,m7,s,rfl,h1⟩,fun h=>absurd hlt h⟩
   rw[hT2,ho,if_pos hg,hT]
   rfl
  | false =>
   rw[h3 hg]
   refine⟨?_,hh.symm ▸ rfl,fun _=>⟨b7,m7,s,rfl,h1⟩,fun h=>absurd hlt h⟩
   rw[hT2,ho,if_neg (by rw[hg];simp),hT]
   rfl
 ·rw[List.drop_eq_nil_of_le (by omega)] at h
  obtain⟨b,m,rfl⟩:=h
  have ho:ownT l j=[]:=by unfold ownT;rw[dif_neg hlt]
  have hh:hdQ l j=[]:=by unfold hdQ;rw[dif_neg hlt]
  refine⟨?_,by rw[hh];rfl,fun h=>absurd h hlt,fun _=>rfl⟩
  rw[hT2,ho,hT]
  rfl
theorem node_top {l:List Nat}{n:An}(h:LvA 0 l n):NodeAt l 0 (topW n):=by
 have:=node_of (l:=l) (j:=0) (n:=n) (by simpa using h) (Nat.zero_le _) [] [] rfl (by simp[tgsB])
 simpa[topW] using this
theorem node_step {l:List Nat}{j:Nat}{y:An×Tg}(h:NodeAt l j y)(hj:j<l.length):∃z,stepW y 1=some z∧NodeAt l (j+1) z:=by
 obtain⟨b,m,s,h1,h2⟩:=h.kid hj
 refine⟨(bareA s,tagsA s++y.2),by simp[stepW,h1],?_⟩
 exact node_of h2 (by omega) y.2 (tgsB l j) h.tg rfl
theorem way_lv {l:List Nat}:∀(m:Nat) {j:Nat} {y:An×Tg},NodeAt l j y→j+m≤l.length→∃ys,wayA y (List.replicate m 1)=some ys∧ys.length=m∧∀q (hq:q<ys.length),NodeAt l (j+1+q) ys[q]
 | 0,j,y,h,hm=>⟨[],rfl,rfl,fun q hq=>by simp at hq⟩
 | m+1,j,y,h,hm=>by
  obtain⟨z,h1,h2⟩:=node_step h (by omega)
  obtain⟨ys,h3,h4,h5⟩:=way_lv m h2 (by omega)
  refine⟨z::ys,?_,by simp[h4],fun q hq=>?_⟩
  ·rw[List.replicate_succ,wayA,h1]
   simp only[h3,Option.map_some]
  ·cases q with
   | zero=>exact h2
   | succ q =>
    have:=h5 q (by simpa using hq)
    rw[show j+1+(q+1)=j+1+1+q by omega]
    simpa using this
theorem way_no {l:List Nat}:∀(m:Nat) {j:Nat} {y:An×Tg},NodeAt l j y→j+m≤l.length→wayA y (List.replicate m 1++[0,0])=none
 | 0,j,y,h,hm=>by
  simp only[List.replicate_zero,List.nil_append]
  by_cases hj:j<l.length
  ·obtain⟨b,m,s,h1,_⟩:=h.kid hj
   have h2:kidsO (some (bareA (An.txt b m [55])))=[]:=rfl
   simp[wayA,stepW,h1,h2]
  ·have h1:=h.no hj
   simp[wayA,stepW,h1]
 | m+1,j,y,h,hm=>by
  obtain⟨z,h1,h2⟩:=node_step h (by omega)
  rw[List.replicate_succ,List.cons_append,wayA,h1]
  simp only[way_no m h2 (by omega),Option.map_none]
theorem way_all {l:List Nat}{n:An}(h:LvA 0 l n){tt:Nat}(ht:tt≤l.length):∃fs,(wayA (topW n) (List.replicate tt 1)).map (topW n::·)=some fs∧fs.length=tt+1∧∀q (hq:q<fs.length),NodeAt l q fs[q]:=by
 obtain⟨ys,h1,h2,h3⟩:=way_lv tt (node_top h) (by omega)
 refine⟨topW n::ys,by rw[h1];rfl,by simp[h2],fun q hq=>?_⟩
 cases q with
 | zero=>exact node_top h
 | succ q =>
  have:=h3 q (by simpa using hq)
  rw[show 0+1+q=q+1 by omega] at this
  simpa using this
def wrapB:List Bool→PV→PV
 | [],m=>m
 | b::r,m=>wrapB r (.lst [.txt (taC b),m])
def lvM (l:List Nat)(j:Nat):List PV:=(hdQ l j).map fun h=>wrapB (tgsB l j) h.msg
def stpQ (l:List Nat)(j:Nat):Bool:=(hdQ l j).any (·.stops)
def wantD (l:List Nat):Nat→List PV
 | 0=>lvM l 0
 | j+1=>lvM l (j+1)++if stpQ l (j+1) then [] else wantD l j
theorem hdsL_go (i k:Nat):∀h∈hdsL i k,h.ev=goW:=by
 intro h hh
 unfold hdsL at hh
 rw[List.mem_append] at hh
 rcases hh with hh | hh
 ·split at hh
  ·simp at hh;rw[hh]
  ·simp at hh
 ·split at hh
  ·simp at hh;rw[hh]
  ·simp at hh
theorem hdQ_go (l:List Nat)(j:Nat):∀h∈hdQ l j,h.ev=goW:=by
 unfold hdQ
 split
 ·exact hdsL_go _ _
 ·simp
theorem askH_go (l:List Nat)(j:Nat)(T:Tg):askH goW T (hdQ l j)=(hdQ l j).map fun h=>(h,T):=by
 unfold askH
 rw[List.filter_eq_self.2]
 intro h hh
 simp[hdQ_go l j h hh]
theorem stopH_go (l:List Nat)(j:Nat):stopH goW (hdQ l j)=stpQ l j:=by
 unfold stopH stpQ
 have:∀L:List Hd,(∀h∈L,h.ev=goW)→L.any (fun h=>h.ev==goW&&h.stops)=L.any (·.stops):=fun L hL=>by
  induction L with
  | nil=>rfl
  | cons a r ih =>
   simp only[List.any_cons,ih fun h hh=>hL h (by simp[hh]),hL a (by simp)]
   simp
 exact this _ (hdQ_go l j)
def askD (l:List Nat):Nat→List (Hd×Tg)
 | 0=>(hdQ l 0).map fun h=>(h,(tgsB l 0).map taW)
 | j+1=>((hdQ l (j+1)).map fun h=>(h,(tgsB l (j+1)).map taW))++if stpQ l (j+1) then [] else askD l j
theorem ask_lv {l:List Nat}{fs:List (An×Tg)}(hN:∀q (hq:q<fs.length),NodeAt l q fs[q]):∀j,j<fs.length→askA goW (fs.take (j+1)).reverse=askD l j
 | 0,hj=>by
  have h0:=hN 0 hj
  rw[List.take_succ_eq_append_getElem hj,List.reverse_append]
  simp only[List.take_zero,List.reverse_nil,List.append_nil,List.reverse_cons,List.nil_append,askA,h0.hd,h0.tg,askH_go,askD]
  simp
 | j+1,hj=>by
  have h0:=hN (j+1) hj
  have ih:=ask_lv hN j (by omega)
  rw[List.take_succ_eq_append_getElem hj,List.reverse_append]
  simp only[List.reverse_cons,List.reverse_nil,List.nil_append,List.cons_append,askA,h0.hd,h0.tg,askH_go,stopH_go,ih,askD]
theorem msg_wrap (e:Ex):∀(bs:List Bool) (m:PV),wtV m+3*bs.length≤580→msgA (buF e) (bs.map taW) m=some (wrapB bs m)∧wtV (wrapB bs m)≤wtV m+3*bs.length
 | [],m,_=>⟨rfl,by simp[wrapB]⟩
 | b::r,m,h=>by
  simp only[List.length_cons] at h
  have hl:(taC b).length=1:=by cases b<;>rfl
  have hw:wtV (.lst [.txt (taC b),m])=3+wtV m:=by simp only[wtV,wtVs,hl];omega
  have ih:=msg_wrap e r (.lst [.txt (taC b),m]) (by omega)
  refine⟨?_,?_⟩
  ·rw[List.map_cons,msgA,bu_tag e b m (by omega)]
   exact ih.1
  ·rw[wrapB]
   simp only[List.length_cons]
   omega
theorem hdQ_wt (l:List Nat)(j:Nat):∀h∈hdQ l j,wtV h.msg≤5:=by
 unfold hdQ
 split
 ·intro h hh
  unfold hdsL at hh
  rw[List.mem_append] at hh
  rcases hh with hh | hh
  ·split at hh
   ·simp at hh;rw[hh];simp[wtV]
   ·simp at hh
  ·split at hh
   ·simp at hh;rw[hh];simp[wtV,lastW]
   ·simp at hh
 ·simp
theorem msgs_app (F:List Fn):∀{a b:List (Hd×Tg)} {x y:List PV},msgsA F a=some x→msgsA F b=some y→msgsA F (a++b)=some (x++y)
 | [],b,x,y,h1,h2=>by
  rw[msgsA] at h1
  cases h1
  exact h2
 | a::r,b,x,y,h1,h2=>by
  rw[msgsA] at h1
  rw[List.cons_append,msgsA]
  cases e:msgA F a.2 a.1.msg with
  | none=>rw[e] at h1;cases h1
  | some m =>
   rw[e] at h1
   simp only at h1 ⊢
   cases e2:msgsA F r with
   | none=>rw[e2] at h1;cases h1
   | some z =>
    rw[e2] at h1
    simp only[Option.map_some,Option.some.injEq] at h1
    subst h1
    rw[msgs_app F e2 h2]
    rfl
theorem msgs_own (e:Ex)(l:List Nat)(j:Nat)(hj:j≤20):msgsA (buF e) ((hdQ l j).map fun h=>(h,(tgsB l j).map taW))=some (lvM l j):=by
 have hw:=hdQ_wt l j
 have ht:=tgsB_len l j
 unfold lvM
 generalize hdQ l j=L at *
 induction L with
 | nil=>rfl
 | cons a r ih =>
  have h1:=msg_wrap e (tgsB l j) a.msg (by have:=hw a (by simp);omega)
  simp only[List.map_cons,msgsA,h1.1]
  rw[ih fun h hh=>hw h (by simp[hh])]
  rfl
theorem msgs_lv (e:Ex)(l:List Nat):∀j,j≤20→msgsA (buF e) (askD l j)=some (wantD l j)
 | 0,_=>msgs_own e l 0 (by omega)
 | j+1,hj=>by
  rw[askD,wantD]
  refine msgs_app _ (msgs_own e l (j+1) hj) ?_
  split
  ·rfl
  ·exact msgs_lv e l j (by omega)
end Go.Proofs.YtifhgjpglicjbaaGreatDoor
namespace Go.Proofs.YtifhgjpglicjbaaGreatDoor
open Go.Proofs.Tryz
open Go.RowKit Go.Extern.Stop Go.Stop Go.Extern
attribute [local go_sem ↓] Go.wp_at_zero Go.wp_at_succ
abbrev nnV (j:Nat):Value:=.iface 153 (.agg #[.int .i64 ((j:Nat):Int)])
theorem Tryz.is_noIsN (v:Value)(xT:TypeId)(w:World):(Instr.typeAssert (.iface 153 v) xT 137 true).run prog w=.ok (.tuple #[.nilIface,.bool false]) w:=run_typeAssert_lacksB underlying137 (by kernel_rfl) (by kernel_rfl) v xT w
theorem Tryz.is_hasUnwN (v:Value)(xT:TypeId)(w:World):(Instr.typeAssert (.iface 153 v) xT 140 true).run prog w=.ok (.tuple #[.iface 153 v,.bool true]) w:=run_typeAssert_hasB underlying140 (by kernel_rfl) v xT w
theorem Tryz.is_methN (x:Value)(w:World):(Go.method 533 153 (.agg #[x]) "Unwrap").run prog w=.ok (263,.agg #[x]) w:=by kernel_rfl
theorem nn_unwrap (j:Nat)(a:Addr)(w:World)(hF:w.cell? ⟨2,0,none⟩=some (errVal a)):Calls prog 263 #[.agg #[.int .i64 ((j:Nat):Int)]] w fun e w'=>e=.returned (errVal a)∧Below w.heap.size w w'∧w'.cell? ⟨2,0,none⟩=some (errVal a):=by
 have hF':(w.alloc (.cells #[.int .i64 ((j:Nat):Int)] 153)).cell? ⟨2,0,none⟩=some (errVal a):=Below.cellv (below1 w _) hF
 unfold errVal at hF hF' ⊢
 go_enter func263,ntmps263
 go_wp2
 go_ret
 first
  | exact⟨rfl,Below.refl _ _,hF⟩
  | exact⟨rfl,below1 w _,hF'⟩
theorem is_nn (k:Nat)(a:Addr)(w:World)(hF:w.cell? ⟨2,0,none⟩=some (errVal a)):
  Calls prog 12 #[nnV k,errVal a] w fun e w'=>e=.returned (.bool true)∧Below w.heap.size w w':=by
 obtain⟨i,hi,hcmp⟩:=Option.map_eq_some_iff.1 Tryz.isComp
 obtain⟨j,hj,hjs⟩:=Option.map_eq_some_iff.1 Tryz.isSize
 have h8:=@run_callFunc_extern prog 30 _ Extern.ReflectliteType.typeOf func30 (by kernel_rfl) (by kernel_rfl) (by kernel_rfl) (by kernel_rfl)
 have h32:=@run_callFunc_extern prog 253 _ (Extern.ReflectliteType.method fun t=>do Rtype.noPackHeld "Comparable" t;pure (.bool (←typeInfo t).comparable)) func253 (by kernel_rfl) (by kernel_rfl) (by kernel_rfl) (by kernel_rfl)
 have tT:=Tryz.isTypeOf
 have cT:=Tryz.isComparable
 have mR:=Tryz.isMethodComparable
 have mN:=Tryz.is_methN
 have nN:=Tryz.is_noIsN
 have uN:=Tryz.is_hasUnwN
 have ht0:=fun X=>run_eql_iface_types (P:=prog) 153 402 (.agg #[.int .i64 ((k:Nat):Int)]) (.pointer (some a)) underlying28 (by decide) X
 go_enter func12,ntmps12
 go_wp2
 refine wp_loop_rounds 2 ?_
 rw[rounds_succ]
 go_wp2_with (go_at_call 263;refine (nn_unwrap k a _ hF).mono ?_;rintro e w9 ⟨rfl,hb9,hF9⟩)
 have heq:=run_eql_iface_ptr_same (P:=prog) w9 a underlying28 underlying402 hi hcmp hj
 rw[rounds_succ]
 go_wp2
 go_ret
 exact⟨rfl,hb9⟩
end Go.Proofs.YtifhgjpglicjbaaGreatDoor
namespace Go.Proofs.YtifhgjpglicjbaaGreatDoor
open Go.Proofs.Tryz
open Go.RowKit Go.Lib
attribute [local go_sem ↓] Go.wp_at_zero Go.wp_at_succ
theorem New_bad (s:ByteArray)(w:World)(E:Nat→Addr)(hE:Errs w E)(h15:15≤w.heap.size)(hs:s.size≤2000){ts:List Tok}(hts:IsToks s.data.toList 0 ts){c p:Nat}(hans:answer s.size ts=some (c,p)):
  Calls prog 14 #[.string s] w fun e w'=>e=.returned (.tuple #[.pointer none,wrongV p (E c)])∧Below w.heap.size w w':=by
 have CR:Calls prog 25 #[.string s] w fun e w'=>(∃ad n cap,e=.returned (.tuple #[.agg #[.slice ad n cap],wrongV p (E c)]))∧Below w.heap.size w w':=by
  refine (read_any s w E hE h15 (by unfold maxLen;omega) (fun _=>hts)).mono fun e w' h=>?_
  obtain⟨⟨ad,n,cap,h1,h2⟩,hb⟩:=h
  rw[hans] at h1
  exact⟨⟨ad,n,cap,h1⟩,hb⟩
 have FIN:Hid (∀X ad n cap,Below w.heap.size w X→Below w.heap.size w (X.alloc (.cells #[.slice ad n cap] 57))):=fun X ad n cap hX=>hX.alloc hX.size _
 clear hE hts hans
 go_enter func14,ntmps14
 go_wp2_with (go_at_call 25;refine CR.mono ?_;rintro e w1 ⟨⟨ad,n,cap,rfl⟩,hb1⟩;have FI:Hid _:=FIN.out _ ad n cap hb1;clear hb1 FIN CR)
 go_ret2
 exact⟨rfl,FI.out⟩
def buE (l:List Nat):Ex:=(lvX 0 l).ex 124
def buB (l:List Nat):ByteArray:=bsA (buTx (lvX 0 l))
theorem bu_size {l:List Nat}(hl:l.length≤10):(buB l).size≤2000∧(buB l).size=(buTx (lvX 0 l)).length∧(buB l).data.toList=buTx (lvX 0 l)∧itsW ((lvX 0 l).its 0)≤1800:=by
 have hb:=lv_b l 0 (by omega)
 have h1:(buB l).size=(buTx (lvX 0 l)).length:=by show (buTx (lvX 0 l)).toArray.size=_;simp
 have h2:=bu_len (lvX 0 l)
 have h3:=hb.w
 exact⟨by omega,h1,by simp[buB,bsA],by omega⟩
theorem bnew_ok {l:List Nat}(hl:l.length≤10)(w:World)(E:Nat→Addr)(hE:Errs w E)(hG:FltG w)(hN:NumG w)(h15:15≤w.heap.size):
  (1+(lvX 0 l).dep≤16→Calls prog 14 #[.string (buB l)] w (newP w (buF (buE l)) (.lst [])))∧(¬ 1+(lvX 0 l).dep≤16→Calls prog 14 #[.string (buB l)] w fun e w'=>∃p,e=.returned (.tuple #[.pointer none,wrongV p (E 3)])∧Below w.heap.size w w'):=by
 obtain⟨s1,s2,s3,s4⟩:=bu_size hl
 have ho:=ok_lv l 0 (by omega)
 refine⟨fun hd=>?_,fun hd=>?_⟩
 ·have L:=bu_loads (lvX 0 l) ho hd s4
  obtain⟨ts,rest,t1,t2,t3⟩:=L.ex
  rw[←s3] at t1
  rw[←s2] at t2
  exact New_ok L.ok L.un (buB l) w E hE hG hN h15 s1 t1 t2 t3 (.lst []) (bu_init _)
 ·obtain⟨a,ha⟩:=bu_deep (lvX 0 l) ho hd s4
  have ht:=bu_is (lvX 0 l) ho
  rw[←s3] at ht
  rw[←s2] at ha
  exact (New_bad (buB l) w E hE h15 s1 ht ha).mono fun e w' hp=>⟨a,hp.1,hp.2⟩
structure BuA (ab:Nat)(w:World)(l:List Nat)(q:List PV)(dr:Nat)(m:PV)(n:An)(c:AC)(a:PA):Prop where
 app:AppAt w ab (buF (buE l)) 0 c a
 low:∀n,a.shown=some n→∀b∈blocksA n,¬ b<ab
 shown:a.shown=some n
 lv:LvA 0 l n
 queue:a.queue=q
 drop:a.dropped=dr
 model:a.model=m
def BuS (ab:Nat)(w:World)(l:List Nat)(q:List PV)(dr:Nat)(m:PV):Prop:=∃n c a,BuA ab w l q dr m n c a
theorem BuS.below {ab:Nat}{w w':World}{l:List Nat}{q:List PV}{dr:Nat}{m:PV}(h:BuS ab w l q dr m)(hb:Below w.heap.size w w'):BuS ab w' l q dr m:=by
 obtain⟨n,c,a,h⟩:=h
 exact⟨n,c,a,h.app.below hb,h.low,h.shown,h.lv,h.queue,h.drop,h.model⟩
theorem BuS.lt {ab:Nat}{w:World}{l:List Nat}{q:List PV}{dr:Nat}{m:PV}(h:BuS ab w l q dr m):ab<w.heap.size:=by
 obtain⟨n,c,a,h⟩:=h
 exact h.app.lt
theorem bload {l:List Nat}(hl:l.length≤10)(hd:1+(lvX 0 l).dep≤16):Loads (buTx (lvX 0 l)) (buF (buE l)):=bu_loads (lvX 0 l) (ok_lv l 0 (by omega)) hd (bu_size hl).2.2.2
theorem bframe_ok {ab:Nat}{w:World}{l:List Nat}{c:AC}{lo:Nat}(hl:l.length≤10)(hd:1+(lvX 0 l).dep≤16)(h:AppAt w ab (buF (buE l)) 0 c (newA (.lst []) lo)):
  Calls prog 16 #[.pointer (some ⟨ab,0,none⟩)] w fun e w'=>e=.returned .nilIface∧Below ab w w'∧RowsKeep w w'∧BuS ab w' l [] 0 (.lst []):=by
 have L:=bload hl hd
 have hb:=lv_b l 0 (by omega)
 have d2:=hb.d2
 have ht:=hb.t
 have hc:=hb.c
 have hA0:=h.frame fun n hn=>nomatch hn
 obtain⟨cn,h1,h2⟩:=look_lv (buE l) l 0 0 0 0 (by omega) (by omega)
 refine (Frame_ok L.ok L.un hA0 (Or.inl rfl) _ _ _ _ _ (bu_view (lvX 0 l) (.lst []) (by omega) (by omega) (by omega)) h2 (by show 0≤_;omega) (by show 0≤_;omega) (by show 0≤_;omega)).mono fun e w1 ⟨n,F,he,hM,hb,hA⟩=>?_
 have hk:=hA.kept (a:=newA (.lst []) lo) (w:=w) rfl rfl
 exact⟨he,hb,hk.1,_,c,_,hA,hk.2,rfl,num_lv 0 (made_lv hM),rfl,rfl,rfl⟩
def xW:List UInt8:=[120]
theorem read_x:readV [39,120,39]=some (.txt xW):=by kernel_rfl
theorem bsend_ok {ab:Nat}{w:World}{l:List Nat}{q:List PV}{m:PV}(h:BuS ab w l q 0 m)(hq:q.length<12):
  Calls prog 19 #[.pointer (some ⟨ab,0,none⟩),.string ⟨#[39,120,39]⟩] w fun e w'=>e=.returned .nilIface∧Below ab w w'∧RowsKeep w w'∧BuS ab w' l (q++[.txt xW]) 0 m:=by
 obtain⟨n,c,a,h⟩:=h
 have hA0:=h.app.frame h.low
 refine (Send_ok hA0 ⟨#[39,120,39]⟩ (.txt xW) (by show 3≤_;omega) read_x (by show a.dropped≤_;rw[h.drop];omega)).mono fun e w1 ⟨c1,he,hb1,hA1⟩=>?_
 have hq0:(a.fr w ab).queue=q:=h.queue
 have el:layA (a.fr w ab) [.txt xW]={ (a.fr w ab) with queue:=q++[.txt xW] }:=by
  unfold layA
  rw[hq0,if_pos (by simp;omega)]
 rw[el] at hA1
 have hk:=hA1.kept (a:=a) (w:=w) rfl rfl
 exact⟨he,hb1,hk.1,n,c1,_,hA1,hk.2,h.shown,h.lv,rfl,h.drop,h.model⟩
theorem hdQ_fine (l:List Nat)(j:Nat)(hj:j≤1000000):(hdQ l j).length≤1000∧∀x∈hdQ l j,Fine x.msg:=by
 refine⟨?_,fun x hx=>?_⟩
 ·unfold hdQ hdsL
  split
  ·split<;>split<;>simp
  ·simp
 ·have h1:=hdQ_wt l j x hx
  refine⟨?_,by omega⟩
  unfold hdQ at hx
  split at hx
  ·unfold hdsL at hx
   rw[List.mem_append] at hx
   rcases hx with hx | hx
   ·split at hx
    ·simp at hx;rw[hx];show okV (.num _);rw[okV];unfold In64;omega
    ·simp at hx
   ·split at hx
    ·simp at hx;rw[hx];show okV (.txt _);rw[okV];trivial
    ·simp at hx
  ·simp at hx
theorem bev_ok {ab:Nat}{w:World}{l:List Nat}{q:List PV}{dr:Nat}{m:PV}(hl:l.length≤10)(hd:1+(lvX 0 l).dep≤16)(h:BuS ab w l q dr m)(hdr:dr≤10){tt:Nat}(ht:tt≤l.length){pv:Value}(hseg:SegAt w TT 3 1 pv tt (List.replicate tt (.int .i64 1))):
  Calls prog 23 #[.pointer (some ⟨ab,0,none⟩),pv,.string ⟨#[103,111]⟩] w fun e w'=>e=.returned (.tuple #[.int .i64 ((if q.length+(wantD l tt).length≤12 then (wantD l tt).length else 0:Nat):Int),.nilIface])∧Below ab w w'∧RowsKeep w w'∧BuS ab w' l (if q.length+(wantD l tt).length≤12 then q++wantD l tt else q) (if q.length+(wantD l tt).length≤12 then dr else dr+1) m:=by
 obtain⟨n,c,a,h⟩:=h
 have L:=bload hl hd
 have hA0:=h.app.frame h.low
 obtain⟨fs,f1,f2,f3⟩:=way_all h.lv ht
 have hpv:pathV (List.replicate tt 1)=List.replicate tt (.int .i64 1):=by simp[pathV]
 have hpl:(List.replicate tt 1).length=tt:=by simp
 have hm:msgsA (buF (buE l)) (askA goW fs.reverse)=some (wantD l tt):=by
  have h1:=ask_lv f3 tt (by omega)
  rw[List.take_of_length_le (by omega)] at h1
  rw[h1]
  exact msgs_lv (buE l) l tt (by omega)
 refine (Event_ok L.ok L.un hA0 (n:=n) h.shown (List.replicate tt 1) pv (by rw[hpl,hpv];exact hseg) (by rw[hpl];omega) (fun i hi=>by rw[List.eq_of_mem_replicate hi];omega) ⟨#[103,111]⟩ fs f1 (fun y hy=>?_) (wantD l tt) hm (by show a.dropped≤_;rw[h.drop];omega)).mono fun e w1 ⟨c1,he,hb1,hA1⟩=>?_
 ·obtain⟨j,hj,rfl⟩:=List.getElem_of_mem hy
  rw[(f3 j hj).hd]
  exact hdQ_fine l j (by omega)
 ·have hq0:(a.fr w ab).queue=q:=h.queue
  have hd0:(a.fr w ab).dropped=dr:=h.drop
  have en:layN (a.fr w ab) (wantD l tt)=if q.length+(wantD l tt).length≤12 then (wantD l tt).length else 0:=by unfold layN;rw[hq0]
  rw[en] at he
  by_cases hw:q.length+(wantD l tt).length≤12
  ·have el:layA (a.fr w ab) (wantD l tt)={ (a.fr w ab) with queue:=q++wantD l tt }:=by unfold layA;rw[hq0,if_pos hw]
   rw[el] at hA1
   have hk:=hA1.kept (a:=a) (w:=w) rfl rfl
   rw[if_pos hw] at he
   simp only[if_pos hw]
   exact⟨he,hb1,hk.1,n,c1,_,hA1,hk.2,h.shown,h.lv,rfl,h.drop,h.model⟩
  ·have el:layA (a.fr w ab) (wantD l tt)={ (a.fr w ab) with dropped:=dr+1 }:=by unfold layA;rw[if_neg (by rw[hq0];exact hw),hd0]
   rw[el] at hA1
   have hk:=hA1.kept (a:=a) (w:=w) rfl rfl
   rw[if_neg hw] at he
   simp only[if_neg hw]
   exact⟨he,hb1,hk.1,n,c1,_,hA1,hk.2,h.shown,h.lv,h.queue,rfl,h.model⟩
theorem ask_none {ev:List UInt8}:∀{L:List (An×Tg)},(∀y∈L,∀h∈hdsA y.1,h.ev≠ev)→askA ev L=[]
 | [],_=>rfl
 | y::r,h=>by
  have h1:askH ev y.2 (hdsA y.1)=[]:=by
   unfold askH
   rw[List.map_eq_nil_iff,List.filter_eq_nil_iff]
   intro x hx
   simpa using h y (by simp) x hx
  rw[askA,h1,ask_none fun z hz=>h z (by simp[hz])]
  simp
theorem bcome_ok {ab:Nat}{w:World}{l:List Nat}{q:List PV}{dr:Nat}{m:PV}(hl:l.length≤10)(hd:1+(lvX 0 l).dep≤16)(h:BuS ab w l q dr m)(hdr:dr≤10)(hq:q.length≤12){tt:Nat}(ht:tt≤l.length){pv:Value}(hseg:SegAt w TT 3 1 pv tt (List.replicate tt (.int .i64 1))):
  Calls prog 23 #[.pointer (some ⟨ab,0,none⟩),pv,.string ⟨#[99,111,109,101]⟩] w fun e w'=>e=.returned (.tuple #[.int .i64 0,.nilIface])∧Below ab w w'∧RowsKeep w w'∧BuS ab w' l q dr m:=by
 obtain⟨n,c,a,h⟩:=h
 have L:=bload hl hd
 have hA0:=h.app.frame h.low
 obtain⟨fs,f1,f2,f3⟩:=way_all h.lv ht
 have hpv:pathV (List.replicate tt 1)=List.replicate tt (.int .i64 1):=by simp[pathV]
 have hpl:(List.replicate tt 1).length=tt:=by simp
 have hm:msgsA (buF (buE l)) (askA [99,111,109,101] fs.reverse)=some []:=by
  rw[ask_none fun y hy x hx=>?_]
  ·rfl
  ·obtain⟨j,hj,rfl⟩:=List.getElem_of_mem (List.mem_reverse.1 hy)
   rw[(f3 j hj).hd] at hx
   rw[hdQ_go l j x hx]
   decide
 refine (Event_ok L.ok L.un hA0 (n:=n) h.shown (List.replicate tt 1) pv (by rw[hpl,hpv];exact hseg) (by rw[hpl];omega) (fun i hi=>by rw[List.eq_of_mem_replicate hi];omega) ⟨#[99,111,109,101]⟩ fs f1 (fun y hy=>?_) [] hm (by show a.dropped≤_;rw[h.drop];omega)).mono fun e w1 ⟨c1,he,hb1,hA1⟩=>?_
 ·obtain⟨j,hj,rfl⟩:=List.getElem_of_mem hy
  rw[(f3 j hj).hd]
  exact hdQ_fine l j (by omega)
 ·have hq0:(a.fr w ab).queue=q:=h.queue
  have el:layA (a.fr w ab) []=(a.fr w ab):=by
   unfold layA
   rw[if_pos (by rw[hq0];simpa using hq),List.append_nil]
  have en:layN (a.fr w ab) []=0:=by
   unfold layN
   split<;>rfl
  rw[el] at hA1
  rw[en] at he
  have hk:=hA1.kept (a:=a) (w:=w) rfl rfl
  exact⟨he,hb1,hk.1,n,c1,_,hA1,hk.2,h.shown,h.lv,h.queue,h.drop,h.model⟩
theorem bno_ok {ab:Nat}{w:World}{l:List Nat}{q:List PV}{dr:Nat}{m:PV}(h:BuS ab w l q dr m){tt:Nat}(ht:tt≤l.length)(ht2:tt≤1000){pv:Value}(hseg:SegAt w TT 3 1 pv (tt+2) (List.replicate tt (.int .i64 1)++[.int .i64 0,.int .i64 0])):
  Calls prog 23 #[.pointer (some ⟨ab,0,none⟩),pv,.string ⟨#[103,111]⟩] w fun e w'=>∃j:Nat,e=.returned (.tuple #[.int .i64 0,nnV j])∧Below ab w w'∧RowsKeep w w'∧BuS ab w' l q dr m:=by
 obtain⟨n,c,a,h⟩:=h
 have hA0:=h.app.frame h.low
 have hpv:pathV (List.replicate tt 1++[0,0])=List.replicate tt (.int .i64 1)++[.int .i64 0,.int .i64 0]:=by simp[pathV]
 have hpl:(List.replicate tt 1++[0,0]).length=tt+2:=by simp
 refine (Event_no hA0 (n:=n) h.shown (List.replicate tt 1++[0,0]) pv (by rw[hpl,hpv];exact hseg) (by rw[hpl];omega) (fun i hi=>?_) ⟨#[103,111]⟩ (way_no tt (node_top h.lv) (by omega))).mono fun e w1 ⟨j,he,hb1,hA1⟩=>?_
 ·rw[List.mem_append] at hi
  rcases hi with hi | hi
  ·rw[List.eq_of_mem_replicate hi];omega
  ·simp at hi;omega
 ·have hk:=hA1.kept (a:=a) (w:=w) rfl rfl
  exact⟨j,he,hb1,hk.1,n,c,_,hA1,hk.2,h.shown,h.lv,h.queue,h.drop,h.model⟩
theorem bcounts_ok {ab:Nat}{w:World}{l:List Nat}{q:List PV}{dr:Nat}{m:PV}(h:BuS ab w l q dr m):
  Calls prog 24 #[.pointer (some ⟨ab,0,none⟩)] w fun e w'=>(∃a b c:Int,e=.returned (.agg #[.int .i64 ((q.length:Nat):Int),.int .i64 a,.int .i64 ((dr:Nat):Int),.int .i64 b,.int .i64 c]))∧Below ab w w'∧RowsKeep w w'∧BuS ab w' l q dr m:=by
 obtain⟨n,c,a,h⟩:=h
 have hA0:=h.app.frame h.low
 refine (Counts_ok hA0).mono fun e w1 ⟨he,hb1,hA1⟩=>?_
 have hk:=hA1.kept (a:=a) (w:=w) rfl rfl
 refine⟨⟨((a.faults:Nat):Int),((a.frames:Nat):Int),((a.lazies:Nat):Int),?_⟩,hb1,hk.1,n,c,_,hA1,hk.2,h.shown,h.lv,h.queue,h.drop,h.model⟩
 rw[he]
 show Ending.returned (cntV a)=_
 rw[cntV,h.queue,h.drop]
theorem bpumpM (e:Ex):∀(q l:List PV) (k:Nat),q.length<k→1+wtVs (l++q)≤600→pumpM (buF e) k q (.lst l)=some (.lst (l++q),[],q.length)
 | [],l,k,hk,_=>by
  obtain⟨g,rfl⟩:∃g,k=g+1:=⟨k-1,by simp at hk;omega⟩
  simp[pumpM]
 | v::q,l,k,hk,hw=>by
  obtain⟨g,rfl⟩:∃g,k=g+1:=⟨k-1,by simp at hk;omega⟩
  have hws:∀a b:List PV,wtVs (a++b)=wtVs a+wtVs b:=fun a b=>by
   induction a with
   | nil=>simp[wtVs]
   | cons x r ih=>simp only[List.cons_append,wtVs,ih];omega
  have h1:wtVs (l++v::q)=wtVs l+(wtV v+wtVs q):=by rw[hws,wtVs]
  have h2:wtVs (l++[v])=wtVs l+wtV v:=by rw[hws,wtVs,wtVs];omega
  have h3:wtVs [v]=wtV v:=by rw[wtVs,wtVs];omega
  rw[pumpM,bu_upd e v l (by omega) (by omega)]
  simp only
  rw[bpumpM e q (l++[v]) g (by simp at hk;omega) (by simpa using hw)]
  simp
theorem bpump_ok {ab:Nat}{w:World}{l:List Nat}{q:List PV}{dr:Nat}(hl:l.length≤10)(hd:1+(lvX 0 l).dep≤16)(h:BuS ab w l q dr (.lst []))(hq:q.length≤12)(hw:1+wtVs q≤600):
  Calls prog 20 #[.pointer (some ⟨ab,0,none⟩),.int .i64 100] w fun e w'=>e=.returned (.int .i64 ((q.length:Nat):Int))∧Below ab w w'∧RowsKeep w w'∧BuS ab w' l [] dr (.lst q):=by
 obtain⟨n,c,a,h⟩:=h
 have L:=bload hl hd
 have hA0:=h.app.frame h.low
 have hp:=bpumpM (buE l) q [] 100 (by omega) (by simpa using hw)
 simp only[List.nil_append] at hp
 refine (Pump_ok L.ok L.un hA0 100 q.length (by omega) (.lst q) [] (by show pumpM _ _ a.queue a.model=_;rw[h.queue,h.model];exact hp)).mono fun e w1 ⟨c1,he,hb1,hA1⟩=>?_
 have hk:=hA1.kept (a:=a) (w:=w) rfl rfl
 exact⟨he,hb1,hk.1,n,c1,_,hA1,hk.2,h.shown,h.lv,rfl,h.drop,rfl⟩
theorem bmodel_ok {ab:Nat}{w:World}{l:List Nat}{q:List PV}{dr:Nat}{m:PV}(h:BuS ab w l q dr m):
  Calls prog 22 #[.pointer (some ⟨ab,0,none⟩)] w fun e w'=>e=.returned (.string ⟨(wrV m).toArray⟩)∧Below ab w w':=by
 obtain⟨n,c,a,h⟩:=h
 refine (Model_ok h.app).mono fun e w1 ⟨he,hb1,hA1⟩=>?_
 rw[h.model] at he
 exact⟨he,hb1⟩
end Go.Proofs.YtifhgjpglicjbaaGreatDoor
namespace Go.Proofs.YtifhgjpglicjbaaGreatDoor
open Go.Proofs.Tryz
open Go.RowKit Go.Lib
def lvs (raw:List Int)(i:Nat):List Nat:=(raw.take i).map fun z=>pickA z 12
theorem lvs_len {raw:List Int}{i:Nat}(h:i≤raw.length):(lvs raw i).length=i:=by simp[lvs];omega
theorem lvs_lt (raw:List Int)(i:Nat):∀k∈lvs raw i,k<12:=by
 intro k hk
 obtain⟨z,_,rfl⟩:=List.mem_map.1 hk
 exact pickA_lt (by omega)
theorem lvs_succ {raw:List Int}{i:Nat}(h:i<raw.length):lvs raw (i+1)=lvs raw i++[pickA (raw.getD i 0) 12]:=by
 unfold lvs
 rw[List.take_succ_eq_append_getElem h,List.map_append,List.getD_eq_getElem?_getD,List.getElem?_eq_getElem h]
 rfl
def hS1 (i k:Nat):List UInt8:=if h1b k then [40,108,105,115,116,32,39,111,110,39,32,39,103,111,39,32]++dgt i++[41] else []
def hS2 (k:Nat):List UInt8:=if h2b k then [32,40,108,105,115,116,32,39,111,110,39,32,39,103,111,39,32,39,108,97,115,116,39,32]++dgt (k % 2)++[41] else []
theorem hd_rend (i k:Nat):rend ((hdX i k).its 1)=[40,108,105,115,116,32]++hS1 i k++hS2 k++[41,32]:=by
 unfold hdX hS1 hS2
 split<;>split<;>simp[hd1,hd2,SX.its,SXs.its,rend,It.bytes,listW,onW,goW,lastW,List.replicate]
theorem el_rend (i k:Nat)(s:SX):rend ((elX i k s).its 0)=[40,108,105,115,116,32,39,101,108,39,32,39,100,39,32,40,108,105,115,116,32]++(hS1 i k++hS2 k)++[41,32,40,108,105,115,116,32,55,32]++rend (s.its 0)++[41,41]:=by
 have h:=hd_rend i k
 simp[elX,SX.its,SXs.its,rend,rend_app,It.bytes,listW,elW,List.replicate,h]
theorem tg_rend (i:Nat)(s:SX):rend ((tgX i s).its 0)=[40,108,105,115,116,32,39,116,97,103,39,32,39,116]++taC (decide (i % 2=1))++[39,32]++rend (s.its 0)++[41]:=by
 have ht:taW (decide (i % 2=1))=116::taC (decide (i % 2=1)):=by unfold taW taC;split<;>rfl
 simp[tgX,SX.its,SXs.its,rend,rend_app,It.bytes,listW,List.replicate,ht]
def lvS (l:List Nat)(i:Nat):List UInt8:=rend ((lvX i (l.drop i)).its 0)
theorem lvS_end (l:List Nat):lvS l l.length=[39,101,110,100,39]:=by
 unfold lvS
 rw[List.drop_length]
 rfl
theorem lvS_len {l:List Nat}(h:l.length≤10)(i:Nat)(hi:i≤l.length):(lvS l i).length≤1600:=by
 unfold lvS
 rw[rend_len]
 have:=(lv_b (l.drop i) i (by simp;omega)).w
 simp at this
 omega
theorem lvS_step {l:List Nat}{i:Nat}(hi:i<l.length):(tgb l[i]=true→lvS l i=[40,108,105,115,116,32,39,116,97,103,39,32,39,116]++taC (decide (i % 2=1))++[39,32]++([40,108,105,115,116,32,39,101,108,39,32,39,100,39,32,40,108,105,115,116,32]++(hS1 i l[i]++hS2 l[i])++[41,32,40,108,105,115,116,32,55,32]++lvS l (i+1)++[41,41])++[41])∧(tgb l[i]=false→lvS l i=[40,108,105,115,116,32,39,101,108,39,32,39,100,39,32,40,108,105,115,116,32]++(hS1 i l[i]++hS2 l[i])++[41,32,40,108,105,115,116,32,55,32]++lvS l (i+1)++[41,41]):=by
 unfold lvS
 rw[List.drop_eq_getElem_cons hi,lvX]
 refine⟨fun h=>?_,fun h=>?_⟩
 ·rw[if_pos h,tg_rend,el_rend]
 ·rw[if_neg (by rw[h];simp),el_rend]
theorem buB_eq (l:List Nat):buB l=(⟨buPre.toArray⟩:ByteArray)++⟨(lvS l 0).toArray⟩++⟨#[41]⟩:=by
 apply ByteArray.ext
 simp[buB,bsA,buTx,lvS]
theorem wrap_snoc (b:Bool):∀(bs:List Bool) (m:PV),wrapB (bs++[b]) m=.lst [.txt (taC b),wrapB bs m]
 | [],m=>rfl
 | c::r,m=>by rw[List.cons_append,wrapB,wrapB,wrap_snoc b r]
theorem wr_snoc (b:Bool)(bs:List Bool)(m:PV):wrV (wrapB (bs++[b]) m)=[40,39]++taC b++[39,32]++wrV (wrapB bs m)++[41]:=by
 rw[wrap_snoc]
 simp[wrV,wrVs,wrT]
def wantZ (l:List Nat):Nat→List PV
 | 0=>[]
 | i+1=>wantD l i
theorem wantZ_succ (l:List Nat)(i:Nat):wantZ l (i+1)=lvM l i++if stpQ l i then [] else wantZ l i:=by
 cases i with
 | zero =>
  show lvM l 0=_
  split<;>simp[wantZ]
 | succ i=>rfl
theorem wantD_top (l:List Nat){tt:Nat}(ht:tt≤l.length):wantD l tt=wantZ l (min (tt+1) l.length):=by
 by_cases h:tt=l.length
 ·subst h
  rw[Nat.min_eq_right (by omega)]
  cases hl:l.length with
  | zero =>
   show wantD l 0=[]
   have:hdQ l 0=[]:=by unfold hdQ;rw[dif_neg (by omega)]
   simp[wantD,lvM,this]
  | succ n =>
   have:hdQ l (n+1)=[]:=by unfold hdQ;rw[dif_neg (by omega)]
   rw[wantD]
   simp[lvM,stpQ,this,wantZ]
 ·rw[Nat.min_eq_left (by omega)]
  rfl
theorem tgsB_succ (l:List Nat)(j:Nat):tgsB l (j+1)=ownT l (j+1)++tgsB l j:=rfl
end Go.Proofs.YtifhgjpglicjbaaGreatDoor
namespace Go.Proofs.YtifhgjpglicjbaaGreatDoor
open Go.Proofs.Tryz
open Go.RowKit Go.Lib
attribute [local go_sem ↓] Go.wp_at_zero Go.wp_at_succ
def strV (b:List UInt8):Value:=.string (bsA b)
theorem Tryz.infoStringB:(prog.info? 9).map (fun i=>(i.zero,i.size,i.bytes))=some (some (.string ⟨#[]⟩),1,16):=by kernel_rfl
def strW (m:PV):Value:=.string ⟨(wrV m).toArray⟩
structure LwI (W4 wr:World)(tt:Nat)(pv wv:Value)(acc:List PV):Prop where
 bel:Below W4.heap.size W4 wr
 pth:wr.ownsRow W4.heap.size 3 1 pv tt (List.replicate tt (.int .i64 1))
 wnt:wr.ownsRow W4.heap.size 9 1 wv acc.length (acc.map strW)
theorem LwI.below {W4 wr wr':World}{tt:Nat}{pv wv:Value}{acc:List PV}(h:LwI W4 wr tt pv wv acc)(hb:Below wr.heap.size wr wr'):LwI W4 wr' tt pv wv acc :=
 ⟨h.bel.trans (hb.mono h.bel.size),owns_keep h.pth fun q hq=>hb.block q (h.pth.lt q hq).2,owns_keep h.wnt fun q hq=>hb.block q (h.wnt.lt q hq).2⟩
def tgsZ (l:List Nat):Nat→List Bool
 | 0=>[]
 | j+1=>tgsB l j
def gotS (L:List Hd)(pre:List Bool):List Value:=L.map fun h=>strW (wrapB pre h.msg)
structure GtI (X0 wr:World)(gv:Value)(xs:List Value):Prop where
 bel:Below X0.heap.size X0 wr
 own:wr.ownsRow X0.heap.size 9 1 gv xs.length xs
theorem GtI.below {X0 wr wr':World}{gv:Value}{xs:List Value}(h:GtI X0 wr gv xs)(hb:Below wr.heap.size wr wr'):GtI X0 wr' gv xs :=
 ⟨h.bel.trans (hb.mono h.bel.size),owns_keep h.own fun q hq=>hb.block q (h.own.lt q hq).2⟩
theorem hdQ_len (l:List Nat)(j:Nat):(hdQ l j).length≤2:=by
 unfold hdQ
 split
 ·unfold hdsL
  cases h1b (l[j])<;>cases h2b (l[j])<;>simp
 ·simp
theorem lvM_len (l:List Nat)(j:Nat):(lvM l j).length≤2:=by
 unfold lvM
 rw[List.length_map]
 exact hdQ_len l j
theorem wantD_len (l:List Nat):∀j,(wantD l j).length≤2*(j+1)
 | 0=>by rw[wantD];exact lvM_len l 0
 | j+1=>by
  have h1:=lvM_len l (j+1)
  have h2:=wantD_len l j
  rw[wantD,List.length_append]
  split
  ·simp
   omega
  ·omega
theorem lw_step {w4 X0 wc w':World}{tt:Nat}{pv wv gv v':Value}{acc ms:List PV}(hA:LwI w4 X0 tt pv wv acc)(hG:GtI X0 wc gv (ms.map strW))(ho:w'.ownsRow w4.heap.size 9 1 v' (acc.length+ms.length) (acc.map strW++ms.map strW))(hg:wc.grownBy w' wv.ownBlock):LwI w4 w' tt pv v' (acc++ms):=by
 have h:=hA.below hG.bel
 refine⟨h.bel.grown hg h.bel.size fun q hq=>(h.wnt.lt q hq).1,owns_keep h.pth fun q hq=>?_,?_⟩
 ·refine hg.block q (h.pth.lt q hq).2 fun e=>?_
  obtain⟨c1,e1⟩:=owns_block h.pth hq
  obtain⟨c2,e2⟩:=owns_block h.wnt e.symm
  rw[e1] at e2
  cases e2
 ·rw[List.length_append,List.map_append]
  exact ho
theorem owns_set {w:World}{base:Nat}{t:TypeId}{v:Value}{n:Nat}{xs:List Value}(h:w.ownsRow base t 1 v n xs){g j c:Nat}(hv:v=.slice (some ⟨g,0,none⟩) n c)(hj:j<n)(u:Value):(w.setCell ⟨g,j,none⟩ u).ownsRow base t 1 v n (xs.set j u):=by
 refine⟨by rw[List.length_set];exact h.1,?_⟩
 rcases h.2 with ⟨rfl,h0⟩ | ⟨g',cap',cur,hv',hg,hh,hc',hm,hz,ht⟩
 ·omega
 ·rw[hv] at hv'
  cases hv'
  refine Or.inr ⟨g,c,cur.setIfInBounds j u,hv,hg,set_block hh u,hc',hm,by simpa using hz,?_⟩
  rw[←ht]
  simp only[Nat.mul_one]
  rw[Array.toList_setIfInBounds,List.take_set]
theorem gt_at {X0 X:World}{a:Option Addr}{n c:Nat}{xs:List Value}(h:GtI X0 X (.slice a n c) xs)(hn:xs.length=n){r:Nat}(hr:r<n):∃gg,a=some ⟨gg,0,none⟩∧n≤c∧c≤9223372036854775807∧gg<X.heap.size∧X.cell? ⟨gg,r,none⟩=xs[r]?∧X.frozen? ⟨gg,r,none⟩=false∧∀Y u,Below X.heap.size X Y→GtI X0 (Y.setCell ⟨gg,r,none⟩ u) (.slice a n c) (xs.set r u):=by
 have ho:=h.own
 rw[hn] at ho
 rcases ho.2 with ⟨_,h0⟩ | ⟨g,cap',cur,hv,hg,hh,hc',hm,hz,ht⟩
 ·omega
 ·cases hv
  have hlt:=block_lt hh
  refine⟨g,rfl,hc',by unfold maxLen at hm;omega,hlt,?_,(by unfold World.frozen?;rw[hh];rfl),fun Y u hY=>⟨?_,?_⟩⟩
  ·have e1:=congrArg (·[r]?) ht
   simp only[Nat.mul_one] at e1
   rw[List.getElem?_take_of_lt (by omega)] at e1
   rw[cell_of hh]
   simpa using e1
  ·exact (h.bel.trans (hY.mono h.bel.size)).setCell (p:=⟨g,r,none⟩) hg u
  ·rw[List.length_set,hn]
   exact owns_set (owns_keep ho fun q hq=>hY.block q (ho.lt q hq).2) rfl hr u
theorem set_mid {A B:List Value}{r:Nat}{u:Value}(hl:A.length=B.length)(hr:r<B.length)(h:A[r]?=some u):(A.take r++B.drop r).set r u=A.take (r+1)++B.drop (r+1):=by
 have e:(A.take r).length=r:=by rw[List.length_take];omega
 rw[List.drop_eq_getElem_cons hr,List.set_append_right r u (by omega),e,Nat.sub_self,List.set_cons_zero,List.take_add_one,h]
 simp
theorem ok_wrap:∀(bs:List Bool) (m:PV),okV m→okV (wrapB bs m)
 | [],m,h=>h
 | b::r,m,h=>by
  rw[wrapB]
  refine ok_wrap r _ ?_
  rw[okV,okVs,okVs,okVs,okV]
  exact⟨trivial,h,trivial⟩
structure BmI (w wr:World)(ab:Nat)(l:List Nat)(sl:Value)(q:List PV)(dr:Nat)(m:PV):Prop where
 bel:Below w.heap.size w wr
 bu:BuS ab wr l q dr m
 row:wr.ownsRow 0 3 1 sl l.length (l.map intV)
 hab:w.heap.size≤ab
theorem BmI.below {w wr wr':World}{ab:Nat}{l:List Nat}{sl:Value}{q:List PV}{dr:Nat}{m:PV}(h:BmI w wr ab l sl q dr m)(hb:Below wr.heap.size wr wr'):BmI w wr' ab l sl q dr m :=
 ⟨h.bel.trans (hb.mono h.bel.size),h.bu.below hb,owns_keep h.row fun q hq=>hb.block q (h.row.lt q hq).2,h.hab⟩
structure BkI (raw:List Int)(w wr:World)(i:Nat)(v:Value):Prop where
 bel:Below w.heap.size w wr
 own:wr.ownsRow w.heap.size 3 1 v i ((lvs raw i).map intV)
theorem BkI.cell {raw:List Int}{w wr:World}{i:Nat}{v:Value}(h:BkI raw w wr i v)(hi:i≤raw.length){j:Nat}(hj:j<i):∃g vcap,v=.slice (some ⟨g,0,none⟩) i vcap∧i≤vcap∧vcap≤9223372036854775807∧wr.cell? ⟨g,j,none⟩=some (.int .i64 (((lvs raw i).getD j 0:Nat):Int)):=by
 have hl:=lvs_len hi
 have ho:=h.own
 have:wr.ownsRow w.heap.size 3 1 v (lvs raw i).length ((lvs raw i).map intV):=by rw[hl];exact ho
 obtain⟨g,vc,e1,c1,c2,c3,_⟩:=owns_cell this (k:=j) (by omega)
 rw[hl] at e1 c1
 rw[List.getD_eq_getElem?_getD,List.getElem?_eq_getElem (by omega)]
 exact⟨g,vc,e1,c1,c2,c3⟩
theorem BkI.below {raw:List Int}{w wr wr':World}{i:Nat}{v:Value}(h:BkI raw w wr i v)(hb:Below wr.heap.size wr wr'):BkI raw w wr' i v :=
 ⟨h.bel.trans (hb.mono h.bel.size),owns_keep h.own fun q hq=>hb.block q (h.own.lt q hq).2⟩
theorem BuS.ints {ab:Nat}{w w':World}{l:List Nat}{q:List PV}{dr:Nat}{m:PV}(h:BuS ab w l q dr m)(hsz:w.heap.size≤w'.heap.size)(hk:∀k,k<w.heap.size→(k≤ab∨¬ ∃cur,w.heap[k]?=some (.cells cur 3))→w'.heap[k]?=w.heap[k]?):BuS ab w' l q dr m:=by
 obtain⟨n,c,a,h⟩:=h
 have hs:=h.app.st
 have hlt:=h.app.lt
 have hm:=hs.hm
 have K:∀t,t≠3→TyKeep t w w':=fun t ht k cur hc=>(hk k (block_lt hc) (Or.inr fun ⟨c2,h2⟩=>ht (ty_eq hc h2))).trans hc
 have rk:RK w w':=⟨K _ (by decide),K _ (by decide),K _ (by decide),K _ (by decide),K _ (by decide)⟩
 refine⟨n,c,{ a with S:=fun _=>False },⟨⟨(hk ab hlt (Or.inl (Nat.le_refl _))).trans h.app.blk,⟨?_,hs.model.tyKeep rk.kv,?_,?_,?_,?_,hm,hs.fm,hs.fq,hs.ok,hs.nm,hs.hq,⟨fun q hq=>hq.elim,id,fun _ _ _ _=>id,fun _ _=>id,fun q hq=>?_⟩⟩⟩,h.low,h.shown,h.lv,h.queue,h.drop,h.model⟩⟩
 ·exact (hs.prog.keep fun q hq hl=>hk q hl (Or.inl (Nat.le_of_lt hq.1))).weaken fun q hq=>hq.1
 ·obtain⟨cs,h1,h2⟩:=hs.queue
  refine⟨cs,owns_keep h1 fun q hq=>?_,h2.tyKeep rk.kv⟩
  obtain⟨cur,hc⟩:=owns_block h1 hq
  exact (K _ (by decide) q cur hc).trans hc.symm
 ·refine hs.shown.keep rk fun n hn b hb=>?_
  have hsn:=hs.shown
  rw[show a.shown=some n from hn] at hsn
  obtain⟨c1,t,h1,h2⟩:=AnD.ty (n:=n) hsn b hb
  exact hk b (block_lt h1) (Or.inr fun ⟨c2,h3⟩=>by have:=ty_eq h1 h3;subst this;revert h2;decide)
 ·exact hs.flt.same fun q hq=>hk q (by omega) (Or.inl (by omega))
 ·exact hs.num.same fun q hq=>hk q (by omega) (Or.inl (by omega))
 ·have:=hs.out.fo q hq
  omega
structure TlI (w:World)(ab:Nat)(l:List Nat)(tt:Nat)(pv wv:Value)(W:List PV)(wr:World)(q:List PV)(dr:Nat)(m:PV):Prop where
 bel:Below w.heap.size w wr
 hab:w.heap.size≤ab
 bu:BuS ab wr l q dr m
 pth:wr.ownsRow (ab+1) 3 1 pv tt (List.replicate tt (.int .i64 1))
 wnt:wr.ownsRow (ab+1) 9 1 wv W.length (W.map strW)
theorem TlI.step {w:World}{ab:Nat}{l:List Nat}{tt:Nat}{pv wv:Value}{W:List PV}{wr wr':World}{q q':List PV}{dr dr':Nat}{m m':PV}(h:TlI w ab l tt pv wv W wr q dr m)(hb:Below ab wr wr')(hk:RowsKeep wr wr')(hs:BuS ab wr' l q' dr' m'):TlI w ab l tt pv wv W wr' q' dr' m':=by
 refine⟨h.bel.trans (hb.mono h.hab),h.hab,hs,owns_keep h.pth fun q hq=>?_,owns_keep h.wnt fun q hq=>?_⟩
 ·obtain⟨cur,hc⟩:=owns_block h.pth hq
  exact hk q ⟨cur,Or.inl hc⟩
 ·obtain⟨cur,hc⟩:=owns_block h.wnt hq
  exact hk q ⟨cur,Or.inr hc⟩
theorem TlI.below {w:World}{ab:Nat}{l:List Nat}{tt:Nat}{pv wv:Value}{W:List PV}{wr wr':World}{q:List PV}{dr:Nat}{m:PV}(h:TlI w ab l tt pv wv W wr q dr m)(hb:Below wr.heap.size wr wr'):TlI w ab l tt pv wv W wr' q dr m :=
 h.step (hb.mono (Nat.le_of_lt h.bu.lt)) (.of_below hb) (h.bu.below hb)
theorem run_append_keep {P:Program}(w:World)(base:Nat)(t ty e:TypeId)(i:TypeInfo)(z:Value)(size bytes:Nat)(ht:P.underlying t=some (.slice e))(hi:P.info? e=some i)(hz:i.zero=some z)
  (hsize:i.size=size) (hby:i.bytes=bytes) (hzs:z.cells.size=size) (hsz:0<size)
  (v:Value) (n:Nat) (xs:List Value) (hown:w.ownsRow base e size v n xs)
  (a:Addr) (m c:Nat) (news:List Value) (hl:news.length=m*size) (hnews:∀j u,news[j]?=some u→w.cell? (a.add j)=some u) (h1:∀u∈news,u.oneCell'=true)
  (h63:n+m≤maxLen) (hbytes:(n+m)*bytes≤140737488355328) (hbase:base≤w.heap.size) :
  ∃v' w',(Builtin.append_ #[t,t] ty #[v,.slice (some a) m c]).run P w=.ok v' w'∧w'.ownsRow base e size v' (n+m) (xs++news)∧w.grownBy w' v.ownBlock∧w'.ownsRow base e size v n xs:=by
 obtain⟨v',w',hr,ho,hg,_,_⟩:=run_append_own_at (P:=P) w base t ty e i z size bytes ht hi hz hsize hby hzs hsz v n xs hown a m c news hl hnews h1 h63 hbytes hbase
 rcases hown.2 with ⟨rfl,rfl⟩ | ⟨g,cap,cur,rfl,hbg,hgb,hnc,hcm,hcs,htake⟩
 ·refine⟨v',w',hr,ho,hg,?_⟩
  have hx:xs=[]:=List.eq_nil_of_length_eq_zero (by simpa using hown.1)
  subst hx
  exact World.ownsRow_nil _ _ _ _
 ·by_cases hroom:n+m≤cap
  ·have hfit:n*size+news.length≤cur.size:=by rw[hl,hcs,←Nat.add_mul];exact Nat.mul_le_mul_right _ hroom
   have hr2:=run_append_room (P:=P) w t ty e i ht hi g n cap cur hgb a m c news (by rw[hsize];exact hl) hnews h1 hroom (by rw[hsize];exact hfit)
   have hv:v'=.slice (some ⟨g,0,none⟩) (n+m) cap:=by
    rw[hr] at hr2
    injection hr2
   refine⟨v',w',hr,ho,hg,hown.1,?_⟩
   rcases ho.2 with ⟨hn,_⟩ | ⟨g2,cap2,cur2,hv2,_,hgb2,_,hcm2,hcs2,htake2⟩
   ·rw[hv] at hn
    cases hn
   ·rw[hv] at hv2
    cases hv2
    refine Or.inr ⟨g,cap,cur2,rfl,hbg,hgb2,hnc,hcm,hcs2,?_⟩
    have e1:=congrArg (List.take (n*size)) htake2
    rw[List.take_take,Nat.min_eq_left (Nat.mul_le_mul_right _ (Nat.le_add_right _ _)),List.take_left' hown.1] at e1
    exact e1
  ·have holds:∀j u,xs[j]?=some u→w.cell? ((⟨g,0,none⟩:Addr).add j)=some u:=hown.cells (g:=g) rfl
   obtain⟨v2,w2,r1,r2,r3⟩:=run_append_arg_grows (P:=P) w t ty e i z size bytes ht hi hz hsize hby hzs hsz ⟨g,0,none⟩ n cap xs hown.1 holds a m c news hl hnews (by omega) h63 hbytes
   exact⟨v2,w2,r1,owns_mono r2 hbase,⟨r3.os,r3.tape,r3.output,r3.size,fun k hk _=>r3.block k hk (fun e=>nomatch e)⟩,owns_keep hown fun k hk=>r3.block k (hown.lt k hk).2 (fun e=>nomatch e)⟩
theorem wpList_append_keep {P:Program}{w:World}{ops:Array Oper}{rest:List Oper}{o:Oper}{a:Act}{Q:Exit→Act→World→Prop}(hgd:o.guard=none)(s x:Operand)(t:TypeId)
  (ho:o.op=.call { callee:=.builtin .append,args:=#[s,x],argTypes:=#[t,t] })
  (base:Nat) (e:TypeId) (i:TypeInfo) (z:Value) (size bytes:Nat) (ht:P.underlying t=some (.slice e)) (hi:P.info? e=some i) (hz:i.zero=some z)
  (hsize:i.size=size) (hby:i.bytes=bytes) (hzs:z.cells.size=size) (hsz:0<size)
  (v:Value) (n:Nat) (xs:List Value) (hs:a.eval s=v) (hown:w.ownsRow base e size v n xs)
  (ad:Addr) (m c:Nat) (news:List Value) (hx:a.eval x=.slice (some ad) m c) (hl:news.length=m*size) (hnews:∀j u,news[j]?=some u→w.cell? (ad.add j)=some u) (h1:∀u∈news,u.oneCell'=true)
  (h63:n+m≤maxLen) (hbytes:(n+m)*bytes≤140737488355328) (hbase:base≤w.heap.size)
  (h:∀v' w',w'.ownsRow base e size v' (n+m) (xs++news)→w.grownBy w' v.ownBlock→w'.ownsRow base e size v n xs→wpList P ops Q rest (a.put o.dst v') w') :
  wpList P ops Q (o::rest) a w:=by
 refine wpList_plain hgd fun K hK=>?_
 obtain⟨v',w',hr,h2,h3,h4⟩:=run_append_keep (P:=P) w base t o.type e i z size bytes ht hi hz hsize hby hzs hsz v n xs hown ad m c news hl hnews h1 h63 hbytes hbase
 unfold Oper.wp execOp
 simp only[ho,resolve,invoke,builtin,Sem.run_bind,Sem.run_pure,Result.andThen_ok,List.map_toArray,List.map_cons,List.map_nil,hs,hx,hr]
 exact hK _ _ (h v' w' h2 h3 h4)
theorem TlI.grow {w:World}{ab:Nat}{l:List Nat}{tt:Nat}{pv wv:Value}{W:List PV}{wr wr':World}{q:List PV}{dr:Nat}{m:PV}(h:TlI w ab l tt pv wv W wr q dr m){o:Obj}(hg:(wr.alloc o).grownBy wr' pv.ownBlock)(hpv:wr'.ownsRow (ab+1) 3 1 pv tt (List.replicate tt (.int .i64 1))):TlI w ab l tt pv wv W wr' q dr m:=by
 have ba:=below1 wr o
 have sz:(wr.alloc o).heap.size=wr.heap.size+1:=by simp
 have hk:∀k,k<wr.heap.size→pv.ownBlock≠some k→wr'.heap[k]?=wr.heap[k]?:=fun k hl hne=>by
  rw[hg.block k (by omega) fun e=>hne e.symm,ba.block k hl]
 refine⟨(h.bel.alloc h.bel.size o).grown hg (by rw[sz];have:=h.bel.size;omega) fun q hq=>?_,h.hab,h.bu.ints (by have:=hg.size;omega) fun k hl hc=>hk k hl fun e=>?_,hpv,owns_keep h.wnt fun q hq=>hk q (h.wnt.lt q hq).2 fun e=>?_⟩
 ·have:=(h.pth.lt q hq).1
  have:=h.hab
  omega
 ·rcases hc with hc | hc
  ·have:=(h.pth.lt k e).1
   omega
  ·exact hc (owns_block h.pth e)
 ·obtain⟨c1,h1⟩:=owns_block h.pth e
  obtain⟨c2,h2⟩:=owns_block h.wnt hq
  exact absurd (ty_eq h1 h2) (by decide)
theorem want_ok (l:List Nat):∀tt,tt≤20→∀v∈wantD l tt,okV v∧wtV v≤5+3*(tt+1):=by
 have A:∀j,j≤20→∀v∈lvM l j,okV v∧wtV v≤5+3*(j+1):=fun j hj v hv=>by
  unfold lvM at hv
  obtain⟨h,hh,rfl⟩:=List.mem_map.1 hv
  have h1:=hdQ_wt l j h hh
  have h2:=tgsB_len l j
  exact⟨ok_wrap _ _ ((hdQ_fine l j (by omega)).2 h hh).1,by have:=(msg_wrap (buE l) (tgsB l j) h.msg (by omega)).2;omega⟩
 intro tt
 induction tt with
 | zero=>intro h v hv;exact A 0 h v hv
 | succ j ih =>
  intro h v hv
  rw[wantD,List.mem_append] at hv
  rcases hv with hv | hv
  ·exact A _ h v hv
  ·split at hv
   ·cases hv
   ·have:=ih (by omega) v hv
    exact⟨this.1,by omega⟩
theorem wts_le:∀{q:List PV},(∀v∈q,okV v∧wtV v≤40)→okVs q∧wtVs q≤40*q.length
 | [],_=>by simp[okVs,wtVs]
 | v::r,h=>by
  have h1:=h v (by simp)
  have h2:=wts_le (q:=r) fun x hx=>h x (by simp[hx])
  rw[okVs,wtVs,List.length_cons]
  exact⟨⟨h1.1,h2.1⟩,by omega⟩
theorem str_cell {w:World}{base:Nat}{a:Option Addr}{n c:Nat}{W:List PV}(h:w.ownsRow base 9 1 (.slice a n c) n (W.map strW))(hn:W.length=n){r:Nat}(hr:r<n):∃g,a=some ⟨g,0,none⟩∧n≤c∧c≤9223372036854775807∧w.cell? ⟨g,r,none⟩=some (.string ⟨(wrV (W[r]'(by omega))).toArray⟩):=by
 rcases h.2 with ⟨_,h0⟩ | ⟨g,cap',cur,hv,hg,hh,hc',hm,hz,ht⟩
 ·omega
 ·cases hv
  refine⟨g,rfl,hc',by unfold maxLen at hm;omega,?_⟩
  have e1:=congrArg (·[r]?) ht
  simp only[Nat.mul_one] at e1
  rw[List.getElem?_take_of_lt (by omega),List.getElem?_map,List.getElem?_eq_getElem (show r<W.length by omega)] at e1
  rw[cell_of hh]
  simpa[strW] using e1
def mtx (q:List PV):List UInt8:=40::wrVs q
theorem mtx_first {q:List PV}(h:q=[])(v:PV):(⟨(mtx q).toArray⟩:ByteArray)++⟨(wrV v).toArray⟩=⟨(mtx (q++[v])).toArray⟩:=by
 apply ByteArray.ext
 simp[mtx,h,wrVs,wrT]
theorem mtx_next {q:List PV}(h:q≠[])(v:PV):(⟨(mtx q).toArray⟩:ByteArray)++⟨#[32]⟩++⟨(wrV v).toArray⟩=⟨(mtx (q++[v])).toArray⟩:=by
 apply ByteArray.ext
 simp[mtx,wrVs_snoc,h]
theorem mtx_end (q:List PV):(⟨(mtx q).toArray⟩:ByteArray)++⟨#[41]⟩=⟨(wrV (.lst q)).toArray⟩:=by
 apply ByteArray.ext
 simp[mtx,wrV]
theorem mtx_len {q:List PV}(h:∀v∈q,okV v∧wtV v≤40)(hq:q.length≤12):(mtx q).length≤12000:=by
 obtain⟨h1,h2⟩:=wts_le h
 have h3:=wrV_len (.lst q) (by rw[okV];exact h1)
 rw[wtV] at h3
 have h4:(wrV (.lst q)).length=(mtx q).length+1:=by simp[mtx,wrV]
 omega
end Go.Proofs.YtifhgjpglicjbaaGreatDoor
