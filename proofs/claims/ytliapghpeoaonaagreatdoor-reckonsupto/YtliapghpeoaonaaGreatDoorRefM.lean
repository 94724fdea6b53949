/-
  The reference: names, at all exprs.
-/
import Derived.Test.YtliapghpeoaonaaGreatDoorRefK
set_option maxHeartbeats 4000000
set_option maxRecDepth 8000
namespace Go.Proofs.YtliapghpeoaonaaGreatDoor
open Go.Proofs.Tryz
open Go.RowKit
theorem Ztp {n:List UInt8}:∀{fns:List Fn} {many:Nat},(∀j (hj:j<fns.length),j<many→fns[j].name≠n)→Zc9 ((fns.take many).map Za5) n=none
 | [],many,_=>by simp[Zc9]
 | fn::r,0,_=>by simp[Zc9]
 | fn::r,many+1,h=>by
  have h0:=h 0 (by simp) (by omega)
  have:=Ztp (fns:=r) (many:=many) (n:=n) fun j hj hm=>h (j+1) (by simpa using hj) (by omega)
  simp only[List.getElem_cons_zero] at h0
  simp only[Zc9,List.take_succ_cons,List.map_cons,List.find?_cons,Za5] at this ⊢
  rw[show (fn.name==n)=false by simpa using h0]
  exact this
theorem Zto {n:List UInt8}:∀{fns:List Fn} {many j:Nat} (hj:j<fns.length),j<many→fns[j].name=n→(∀i (hi:i<fns.length),i<j→fns[i].name≠n)→Zc9 ((fns.take many).map Za5) n=some fns[j].params.length
 | [],many,j,hj,_,_,_=>by simp at hj
 | fn::r,0,j,hj,hm,_,_=>by omega
 | fn::r,many+1,0,hj,hm,hn,_=>by
  simp only[List.getElem_cons_zero] at hn
  simp[Zc9,Za5,hn]
 | fn::r,many+1,j+1,hj,hm,hn,hall=>by
  have h0:=hall 0 (by simp) (by omega)
  simp only[List.getElem_cons_zero] at h0
  have:=Zto (fns:=r) (many:=many) (j:=j) (n:=n) (by simpa using hj) (by omega) hn fun i hi hm=>hall (i+1) (by simpa using hi) (by omega)
  simp only[Zc9,List.take_succ_cons,List.map_cons,List.find?_cons,Za5] at this ⊢
  rw[show (fn.name==n)=false by simpa using h0]
  simpa using this
theorem Z2i {P:Nat→Prop}[DecidablePred P]:∀m:Nat,(∀j,j<m→¬ P j)∨∃j,j<m∧P j∧∀i,i<j→¬ P i
 | 0=>Or.inl fun j hj=>absurd hj (by omega)
 | m+1=>by
  rcases Z2i (P:=P) m with h | ⟨j,h1,h2,h3⟩
  ·by_cases hp:P m
   ·exact Or.inr ⟨m,by omega,hp,h⟩
   ·refine Or.inl fun j hj=>?_
    by_cases e:j=m
    ·subst e;exact hp
    ·exact h j (by omega)
  ·exact Or.inr ⟨j,by omega,h2,h3⟩
theorem Zvp (bs:List ByteArray)(v:ByteArray):hasS bs v=(Zap bs).contains v.data.toList:=by
 rw[Bool.eq_iff_iff]
 simp[hasS,Zap,ByteArray.toList_eq]
theorem opT {p:Zaw}{l:List UInt8}(h:p.op.data.toList=l)(m:List UInt8):(p.op.toList==m)=(l==m):=by rw[ByteArray.toList_eq,h]
section
variable {rb:Nat} {fv pv:Value} {fs:List Ze8} {ps:List Zaw} {fns:List Fn}
theorem Zrs {w:World}(h:PM w rb fv pv fs ps fns)(many:Nat)(_hm:many≤fs.length)(nb:ByteArray):
  ((∀r,Zft fs nb.toList many r→r=-1)∧Zc9 ((fns.take many).map Za5) nb.data.toList=none)∨(∃(j:Nat) (hj:j<fs.length),j<many∧(∀r,Zft fs nb.toList many r→r=(j:Int))∧∃(aad:Option Addr) (an acp:Nat),(fs[j]'hj).pv=.slice aad an acp∧Zc9 ((fns.take many).map Za5) nb.data.toList=some an):=by
 have hl:=h.rep.length
 rcases Z2i (P:=fun j=>∃hj:j<fs.length,(fs[j]'hj).name.toList=nb.toList) many with hno | ⟨j,hjm,⟨hj,hn⟩,hall⟩
 ·refine Or.inl ⟨?_,?_⟩
  ·rintro r (⟨h1,_⟩ | ⟨j,hj,h1,_,h2,_⟩)
   ·exact h1
   ·exact absurd ⟨hj,h2⟩ (hno j h1)
  ·refine Ztp fun j hj hjm e=>hno j hjm ⟨by omega,?_⟩
   have hr:=h.rep.at j (by omega) hj
   rw[ByteArray.toList_eq,ByteArray.toList_eq,hr.1,e]
 ·have hjn:j<fns.length:=by omega
  have hr:=h.rep.at j hj hjn
  obtain⟨qs,ls,q1,q2,q3,q4⟩:=hr.2.2.1
  have hpv:∃aad acp,(fs[j]'hj).pv=.slice aad qs.length acp:=by
   rcases q3.2 with ⟨g1,g2⟩ | ⟨g,cp,cur,hv,_⟩
   ·exact⟨none,0,by rw[g1,g2]⟩
   ·exact⟨_,_,hv⟩
  obtain⟨aad,acp,hpv⟩:=hpv
  refine Or.inr ⟨j,hj,hjm,?_,aad,qs.length,acp,hpv,?_⟩
  ·rintro r (⟨_,h1⟩ | ⟨i,hi,h1,h2,h3,h4⟩)
   ·exact absurd hn (h1 j hj hjm)
   ·rw[h2]
    have:i=j:=by
     rcases Nat.lt_trichotomy i j with g | g | g
     ·exact absurd ⟨hi,h3⟩ (hall i g)
     ·exact g
     ·exact absurd hn (h4 j hj g)
    rw[this]
  ·have hpl:(fns[j]'hjn).params.length=qs.length:=by rw[←q2];simp[Zb5,q1]
   rw[←hpl]
   refine Zto hjn hjm ?_ fun i hi him e=>hall i him ⟨by omega,?_⟩
   ·rw[←hr.1,←ByteArray.toList_eq,hn,ByteArray.toList_eq]
   ·have hri:=h.rep.at i (by omega) hi
    rw[ByteArray.toList_eq,ByteArray.toList_eq,hri.1,e]
theorem nam_step {n:Nat}(IH:Zzq rb fv pv fs ps fns n):Zzq rb fv pv fs ps fns (n+1):=by
 intro ex i sv bs w lo many D hsz hwf h hrep hS hbs hm
 cases ex with
 | num b =>
  rw[Ze0] at hrep
  obtain⟨_,p,hp,hop,_,hkv⟩:=hrep
  obtain⟨hi,rfl⟩:=List.getElem?_eq_some_iff.1 hp
  rw[nmE]
  exact Zp1 h i hi sv many hm (by rw[opT hop];decide) (by rw[opT hop];decide) (by rw[opT hop];decide) hkv
 | txt b =>
  rw[Ze0] at hrep
  obtain⟨_,p,hp,hop,_,hkv⟩:=hrep
  obtain⟨hi,rfl⟩:=List.getElem?_eq_some_iff.1 hp
  rw[nmE]
  exact Zp1 h i hi sv many hm (by rw[opT hop];decide) (by rw[opT hop];decide) (by rw[opT hop];decide) hkv
 | var nm a =>
  rw[Ze0] at hrep
  obtain⟨_,p,hp,hop,hs,hat,hkv⟩:=hrep
  obtain⟨hi,rfl⟩:=List.getElem?_eq_some_iff.1 hp
  rw[nmE,←hs,←Zvp,←hat]
  cases hin:hasS bs (ps[i]'hi).s with
  | true=>exact Z1t h i hi sv many hm (by rw[opT hop];decide) (by rw[opT hop];decide) (by rw[opT hop];decide) hkv bs D hS (by omega) hin
  | false=>exact Zvi h i hi sv many hm (by rw[opT hop];decide) (by rw[opT hop];decide) (by rw[opT hop];decide) hkv bs D hS (by omega) hin
 | form wd nm a ks =>
  rw[nmE_form hwf]
  rw[WfE] at hwf
  obtain⟨⟨b,m,hsh,hcount⟩,hwfs⟩:=hwf
  rw[Ze0] at hrep
  obtain⟨_,p,js,hp,hop,hs,hat,hrow,hks⟩:=hrep
  obtain⟨hi,rfl⟩:=List.getElem?_eq_some_iff.1 hp
  rw[szE] at hsz hbs
  have hjl:=hks.length
  obtain⟨kad,kcp,hkv⟩:∃kad kcp,(ps[i]'hi).kv=.slice kad js.length kcp:=by
   rcases hrow.2 with ⟨g1,g2⟩ | ⟨g,cp,cur,hv,_⟩
   ·exact⟨none,0,by rw[g1,g2]⟩
   ·exact⟨_,_,hv⟩
  have ha:(wd==[97])=false:=by
   cases hq:wd==[97] with
   | false=>rfl
   | true =>
    have:wd=[97]:=by simpa using hq
    subst this
    simp[Za3] at hsh
  have full:∀{wd0:List UInt8},wd=wd0→nmK ((fns.take many).map Za5) (Zap bs) (ps[i]'hi).op.data.toList (ps[i]'hi).s.data.toList 0 ks=nmK ((fns.take many).map Za5) (Zap bs) wd nm 0 ks:=fun _=>by rw[hop,hs]
  cases hc:wd==[99,97,108,108] with
  | true =>
   have hmm:(wd==[109,97,112])=false:=by
    have:wd=[99,97,108,108]:=by simpa using hc
    subst this;decide
   have hll:(wd==[108,101,116])=false:=by
    have:wd=[99,97,108,108]:=by simpa using hc
    subst this;decide
   simp only[Bool.true_or,if_true]
   rcases Zrs h many hm (ps[i]'hi).s with ⟨h1,h2⟩ | ⟨j,hj,hjm,h1,aad,an,acp,h2,h3⟩
   ·rw[hs] at h2
    rw[Zcb,h2,←hat]
    exact Zny h i hi sv many hm (by rw[opT hop];exact ha) (by rw[opT hop];exact hc) (by rw[opT hop];exact hmm) kad js.length kcp hkv h1
   ·rw[hs] at h3
    by_cases hk:an=js.length
    ·subst hk
     rw[Zcb,h3,←hjl]
     simp only[if_true,orE]
     have:=Znz h i hi sv many hm (by rw[opT hop];exact ha) (by rw[opT hop];exact hc) (by rw[opT hop];exact hmm) (by rw[opT hop];exact hll) kad kcp bs D hS ks js hkv lo n hrow hks hwfs (by omega) (by omega) IH j hj h1 aad acp h2
     rw[hop,hs] at this
     exact this
    ·rw[Zcb,h3,←hjl]
     simp only[hk,if_false,orE]
     rw[←hat]
     exact Zmc h i hi sv many hm (by rw[opT hop];exact ha) (by rw[opT hop];exact hc) (by rw[opT hop];exact hmm) kad js.length kcp hkv j hj h1 aad an acp h2 hk
  | false =>
   cases hmm:wd==[109,97,112] with
   | true =>
    have hll:(wd==[108,101,116])=false:=by
     have:wd=[109,97,112]:=by simpa using hmm
     subst this;decide
    simp only[Bool.or_true,if_true]
    rcases Zrs h many hm (ps[i]'hi).s with ⟨h1,h2⟩ | ⟨j,hj,hjm,h1,aad,an,acp,h2,h3⟩
    ·rw[hs] at h2
     rw[Zcb,h2,←hat]
     exact Zo1 h i hi sv many hm (by rw[opT hop];exact ha) (by rw[opT hop];exact hc) (by rw[opT hop];exact hmm) kad js.length kcp hkv h1
    ·rw[hs] at h3
     by_cases hk:an=js.length
     ·subst hk
      rw[Zcb,h3,←hjl]
      simp only[if_true,orE]
      have:=Zo2 h i hi sv many hm (by rw[opT hop];exact ha) (by rw[opT hop];exact hc) (by rw[opT hop];exact hmm) (by rw[opT hop];exact hll) kad kcp bs D hS ks js hkv lo n hrow hks hwfs (by omega) (by omega) IH j hj h1 aad acp h2
      rw[hop,hs] at this
      exact this
     ·rw[Zcb,h3,←hjl]
      simp only[hk,if_false,orE]
      rw[←hat]
      exact Zn0 h i hi sv many hm (by rw[opT hop];exact ha) (by rw[opT hop];exact hc) (by rw[opT hop];exact hmm) kad js.length kcp hkv j hj h1 aad an acp h2 hk
   | false =>
    simp only[Bool.or_self,Bool.false_eq_true,if_false]
    have:=Zym h i hi sv many hm (by rw[opT hop];exact ha) (by rw[opT hop];exact hc) (by rw[opT hop];exact hmm) kad kcp bs D hS ks js hkv lo n hrow hks hwfs (by omega) (by omega) IH
    rw[hop,hs] at this
    exact this
theorem Z1z:∀n,Zzq rb fv pv fs ps fns n
 | 0=>by
  intro ex i sv bs w lo many D hsz
  cases ex<;>simp[szE] at hsz
 | n+1=>nam_step (Z1z n)
end
end Go.Proofs.YtliapghpeoaonaaGreatDoor
namespace Go.Proofs.YtliapghpeoaonaaGreatDoor
open Go.Proofs.Tryz
open Go.RowKit
attribute [local go_sem ↓] Go.wp_at_zero Go.wp_at_succ
theorem Zao.take1 {w:World}{D:Nat→Prop}{e:TypeId}{aad:Option Addr}{n cp:Nat}{xs:List Value}(h:Zao w D e 1 (.slice aad n cp) n xs)(hn:0<n)(q:Nat)(hq:q≤n):Zao w D e 1 (.slice aad q cp) q (xs.take q):=by
 obtain⟨h1,h2⟩:=h
 refine⟨by simp;omega,?_⟩
 rcases h2 with ⟨_,h0⟩ | ⟨g,c,cur,hv,hg,hh,hc,hm,hz,ht⟩
 ·omega
 ·cases hv
  refine Or.inr ⟨g,cp,cur,rfl,hg,hh,by omega,hm,hz,?_⟩
  rw[←ht,List.take_take]
  congr 1
  omega
theorem dup_drop (qs:List ByteArray)(ls:List Nat)(_hl:qs.length=ls.length)(q:Nat)(hq:q<qs.length)(hq2:q<ls.length):Zi9 (Zap (qs.take q)) (Zb5 ((qs.drop q).zip (ls.drop q)))=if (Zap (qs.take q)).contains qs[q].data.toList then some ls[q] else Zi9 (Zap (qs.take (q+1))) (Zb5 ((qs.drop (q+1)).zip (ls.drop (q+1)))):=by
 rw[List.drop_eq_getElem_cons hq,List.drop_eq_getElem_cons hq2,List.zip_cons_cons]
 have:Zap (qs.take (q+1))=Zap (qs.take q)++[qs[q].data.toList]:=by
  rw[Zap,List.take_succ_eq_append_getElem hq,List.map_append];rfl
 rw[this]
 simp[Zb5,Zi9]
theorem Z1n {r:Ending}(h:((none:Option (Nat×Nat))=none∧r=.returned (.tuple #[.int .i64 0,.int .i64 0]))∨∃c p:Nat,(none:Option (Nat×Nat))=some (c,p)∧c≠0∧r=.returned (.tuple #[.int .i64 (c:Int),.int .i64 (p:Int)])):r=.returned (.tuple #[.int .i64 0,.int .i64 0]):=by
 rcases h with ⟨_,h⟩ | ⟨c,p,h,_⟩
 ·exact h
 ·cases h
theorem Z1m {r:Ending}{c p:Nat}(h:(some (c,p)=(none:Option (Nat×Nat))∧r=.returned (.tuple #[.int .i64 0,.int .i64 0]))∨∃c2 p2:Nat,some (c,p)=some (c2,p2)∧c2≠0∧r=.returned (.tuple #[.int .i64 (c2:Int),.int .i64 (p2:Int)])):c≠0∧r=.returned (.tuple #[.int .i64 (c:Int),.int .i64 (p:Int)]):=by
 rcases h with ⟨h,_⟩ | ⟨c2,p2,h,h2,h3⟩
 ·cases h
 ·cases h;exact⟨h2,h3⟩
section
variable {w:World} {rb:Nat} {fv pv:Value} {fs:List Ze8} {ps:List Zaw} {fns:List Fn}
theorem Zvl (h:PM w rb fv pv fs ps fns)(i:Nat)(hi:i<fs.length)(aad lad:Option Addr)(an acp ln lcp:Nat)(hpv:(fs[i]'hi).pv=.slice aad an acp)(hlv:(fs[i]'hi).lv=.slice lad ln lcp)(j:Nat)(hfound:∀r,Zft fs (fs[i]'hi).name.toList i r→r=(j:Int)):
  Calls prog 58 #[.pointer (some ⟨rb,5,none⟩),.int .i64 ((i:Nat):Int)] w (Zfn (some (5,(fs[i]'hi).at_)) w):=by
 have c5:=h.c5
 have hf:=h.hf
 obtain⟨fg,fc,hfv,hd1,hd2,b0,b1,b2,b3,b4⟩:=h.fun i hi
 unfold maxLen at hd2
 have hne1:=World.new_ne w _ b0
 have hne2:=World.new_ne w _ c5
 have cfi:=Zd8 (h.below (Zab w (funO (fs[i]'hi).name (fs[i]'hi).at_ (fs[i]'hi).pv (fs[i]'hi).lv (fs[i]'hi).body))) (fs[i]'hi).name i (by omega)
 rw[hpv,hlv] at cfi
 rw[hpv] at b2
 rw[hlv] at b3
 clear hpv hlv
 generalize (fs[i]'hi).name=nm at *
 generalize (fs[i]'hi).at_=pp at *
 generalize (fs[i]'hi).body=bd at *
 subst hfv
 go_enter func58,ntmps58
 go_wp2_with (go_at_call 100;refine cfi.mono ?_;rintro r w2 ⟨⟨fr,rfl,hfr⟩,rfl⟩;obtain rfl:=hfound _ hfr;clear hfr)
 go_quiet (fail)
 go_wp2
 go_ret2
 exact⟨Zeh (Zab w _),Or.inr ⟨5,pp,rfl,by decide,rfl⟩⟩
theorem Zyx (h:PM w rb fv pv fs ps fns)(i:Nat)(hi:i<fs.length)(aad lad:Option Addr)(acp lcp:Nat)(qs:List ByteArray)(ls:List Nat)(hql0:qs.length=ls.length)(hpv:(fs[i]'hi).pv=.slice aad qs.length acp)(hlv:(fs[i]'hi).lv=.slice lad ls.length lcp)(hnone:∀r,Zft fs (fs[i]'hi).name.toList i r→r=-1)
  (rowP:Zao w (fun _=>True) 9 1 (.slice aad qs.length acp) qs.length (Zco qs)) (rowL:Zao w (fun _=>True) 3 1 (.slice lad ls.length lcp) ls.length (Zg9 ls)) (hqn:qs.length≤3000) (O:Option (Nat×Nat))
  (cnm:∀X,Below w.heap.size w X→Calls prog 102 #[.pointer (some ⟨rb,5,none⟩),.int .i64 (((fs[i]'hi).body:Nat):Int),.slice aad qs.length acp,.int .i64 ((i:Nat):Int)] X (Zfn O X)) :
  Calls prog 58 #[.pointer (some ⟨rb,5,none⟩),.int .i64 ((i:Nat):Int)] w (Zfn (match Zi9 [] (Zb5 (qs.zip ls)) with | some p=>some (5,p) | none=>O) w):=by
 have c5:=h.c5
 have hf:=h.hf
 obtain⟨fg,fc,hfv,hd1,hd2,b0,b1,b2,b3,b4⟩:=h.fun i hi
 unfold maxLen at hd2
 have hne1:=World.new_ne w _ b0
 have hne2:=World.new_ne w _ c5
 have cfi:=Zd8 (h.below (Zab w (funO (fs[i]'hi).name (fs[i]'hi).at_ (fs[i]'hi).pv (fs[i]'hi).lv (fs[i]'hi).body))) (fs[i]'hi).name i (by omega)
 rw[hpv,hlv] at cfi
 rw[hpv] at b2
 rw[hlv] at b3
 clear hpv hlv
 generalize (fs[i]'hi).name=nm at *
 generalize (fs[i]'hi).at_=pp at *
 generalize (fs[i]'hi).body=bd at *
 subst hfv
 have hql:Aside (qs.length=ls.length):=hql0
 have hQL2:ls.length≤3000:=by omega
 clear hql0
 generalize hRES:(match Zi9 [] (Zb5 (qs.zip ls)) with | some p=>some (5,p) | none=>O)=RES at *
 have HRES:Aside ((match Zi9 [] (Zb5 (qs.zip ls)) with | some p=>some (5,p) | none=>O)=RES):=hRES
 clear hRES
 go_enter func58,ntmps58
 go_wp2_with (go_at_call 100;refine cfi.mono ?_;rintro r w2 ⟨⟨fr,rfl,hfr⟩,rfl⟩;obtain rfl:=hnone _ hfr;clear hfr)
 go_loopg [8] qs.length (fun gh iv wr=>∃q:Nat,gh=qs.length-q∧iv=.int .i64 ((q:Nat):Int)∧q≤qs.length∧Below (w.alloc (funO nm pp (.slice aad qs.length acp) (.slice lad ls.length lcp) bd)).heap.size (w.alloc (funO nm pp (.slice aad qs.length acp) (.slice lad ls.length lcp) bd)) wr∧Aside (Zi9 [] (Zb5 (qs.zip ls))=Zi9 (Zap (qs.take q)) (Zb5 ((qs.drop q).zip (ls.drop q)))))
 case atStart=>exact⟨0,by omega,rfl,by omega,Below.refl _ _,rfl⟩
 case round =>
  obtain⟨q,rfl,rfl,hq,hbw,hR⟩:=hrel
  have hBw:Below w.heap.size w wr:=(Zab w (funO nm pp (.slice aad qs.length acp) (.slice lad ls.length lcp) bd)).trans (hbw.mono (by simp))
  have gx:Gx wr w.heap.size nm pp (.slice aad qs.length acp) (.slice lad ls.length lcp) bd:=(⟨heap_alloc_new _ _⟩:Gx (w.alloc (funO nm pp (.slice aad qs.length acp) (.slice lad ls.length lcp) bd)) w.heap.size nm pp (.slice aad qs.length acp) (.slice lad ls.length lcp) bd).same (hbw.block _ (by simp))
  obtain⟨o0,o1,o2,o3,o4⟩:=gx.facts
  by_cases hlt:q<qs.length
  ·obtain⟨kg,kc,hkv2,_,hk1,hk2,hkcell⟩:=rowP.cell (by omega)
   simp only[Value.slice.injEq] at hkv2
   obtain⟨rfl,_,rfl⟩:=hkv2
   have hlt2:q<ls.length:=by have:=hql.out;omega
   obtain⟨lg,lc,hlv2,_,hl1,hl2,hlcell⟩:=rowL.cell (by omega)
   simp only[Value.slice.injEq] at hlv2
   obtain⟨rfl,_,rfl⟩:=hlv2
   unfold maxLen at hk2 hl2
   have kq:wr.cell? ⟨kg,q,none⟩=some (.string qs[q]):=Below.cellv hBw (by rw[hkcell q (by omega)];simp[Zco,hlt])
   have lq:wr.cell? ⟨lg,q,none⟩=some (.int .i64 ((ls[q]:Nat):Int)):=Below.cellv hBw (by rw[hlcell q (by omega)];simp[Zg9,hlt2])
   have cin:=fun X (hX:Zao X (fun _=>True) 9 1 (.slice (some ⟨kg,0,none⟩) q acp) (qs.take q).length (Zco (qs.take q)))=>Z2c (.slice (some ⟨kg,0,none⟩) q acp) (qs.take q) qs[q] X (fun _=>True) hX (by simp;omega)
   have rX:Zao wr (fun _=>True) 9 1 (.slice (some ⟨kg,0,none⟩) q acp) (qs.take q).length (Zco (qs.take q)):=by
    have:=(Zai rowP hBw).take1 (by omega) q (by omega)
    rw[show (qs.take q).length=q by simp;omega,show Zco (qs.take q)=(Zco qs).take q by simp[Zco,List.map_take]]
    exact this
   have HD:Aside (Zi9 [] (Zb5 (qs.zip ls))=if (Zap (qs.take q)).contains qs[q].data.toList then some ls[q] else Zi9 (Zap (qs.take (q+1))) (Zb5 ((qs.drop (q+1)).zip (ls.drop (q+1))))):=by
    show _=_
    rw[hR.out,dup_drop qs ls hql.out q hlt hlt2]
   clear hR hkcell hlcell rowP rowL
   have hii:((q:Nat):Int)≤((qs.length:Nat):Int):=by omega
   cases hin:hasS (qs.take q) qs[q] with
   | false =>
    rw[hin] at cin
    rw[Zvp] at hin
    have HD2:Aside (Zi9 [] (Zb5 (qs.zip ls))=Zi9 (Zap (qs.take (q+1))) (Zb5 ((qs.drop (q+1)).zip (ls.drop (q+1))))):=by show _=_;rw[HD.out,hin];rfl
    generalize qs[q]=sq at *
    generalize ls[q]=lq2 at *
    go_wp2
    go_region_with ((go_at_call 101;refine (cin wr.drew rX).mono ?_;rintro r w3 ⟨rfl,rfl⟩))
    all_goals go_wp2
    all_goals go_roundg (qs.length-(q+1))
    all_goals first
     | omega
     | exact⟨q+1,rfl,by go_num,by omega,by first | exact hbw.drew | exact Zeh hbw | exact hbw,HD2.out⟩
   | true =>
    rw[hin] at cin
    rw[Zvp] at hin
    have HD2:Aside (RES=some (5,ls[q])):=by show _=_;rw[←HRES.out,HD.out,hin];rfl
    generalize qs[q]=sq at *
    generalize ls[q]=lq2 at *
    go_wp2
    go_region_with ((go_at_call 101;refine (cin wr.drew rX).mono ?_;rintro r w3 ⟨rfl,rfl⟩))
    all_goals go_wp2
    all_goals go_region
    all_goals go_wp2
    all_goals go_ret2
    all_goals refine⟨?_,Or.inr ⟨5,lq2,HD2.out,by decide,rfl⟩⟩
    all_goals first
     | exact Zeh hBw
     | exact (hBw.drew).drew
     | exact Zeh hBw.drew
  ·have HO:Aside (RES=O):=by
    show _=_
    rw[←HRES.out,hR.out,List.drop_of_length_le (by omega)]
    rfl
   have cX:=cnm wr hBw
   clear cnm
   rcases O with _ | ⟨c,p⟩
   ·go_wp2_with (go_at_call 102;refine cX.mono ?_;rintro r w3 ⟨hb3,hr3⟩;obtain rfl:=Z1n hr3)
    go_ret2
    exact⟨hBw.trans (hb3.mono hBw.size),Or.inl ⟨HO.out,rfl⟩⟩
   ·go_wp2_with (go_at_call 102;refine cX.mono ?_;rintro r w3 ⟨hb3,hr3⟩;obtain⟨hc0,rfl⟩:=Z1m hr3)
    go_ret2
    exact⟨hBw.trans (hb3.mono hBw.size),Or.inr ⟨c,p,HO.out,hc0,rfl⟩⟩
end
theorem look_sub {fs:List (List UInt8×Nat)}{n:List UInt8}(h:Zc9 fs n=none):∀s∈fs,s.1≠n:=by
 intro s hs e
 simp only[Zc9,Option.map_eq_none_iff,List.find?_eq_none] at h
 have:=h s hs
 simp[e] at this
theorem nmFn_new {fs:List (List UInt8×Nat)}{fn:Fn}(h:Zj1 fs fn=none):Zc9 fs fn.name=none:=by
 unfold Zj1 at h
 split at h
 ·cases h
 ·rename_i h0
  simpa using h0
theorem Ztf:∀{fns:List Fn} {pre:List (List UInt8×Nat)},Zdr pre fns=none→∀g∈fns,∀s∈pre,s.1≠g.name
 | [],pre,_,g,hg=>by cases hg
 | fn::r,pre,h,g,hg=>by
  rw[Zdr] at h
  cases hf:Zj1 pre fn with
  | some e=>rw[hf] at h;cases h
  | none =>
   rw[hf] at h
   rcases List.mem_cons.1 hg with rfl | hg2
   ·exact look_sub (nmFn_new hf)
   ·intro s hs
    exact Ztf h g hg2 s (by simp[hs])
def Zp4 (wd:List UInt8)(k:Nat)(fns:List Fn):Bool:=match Zc9 (fns.map Za5) wd with | some a=>a==k | none=>false
theorem Ztu (wd:List UInt8)(k:Nat):∀{fns:List Fn} {pre:List (List UInt8×Nat)},Zdr pre fns=none→Zzu wd k fns=Zp4 wd k fns
 | [],pre,_=>by simp[Zzu,Zp4,Zc9]
 | fn::r,pre,h=>by
  rw[Zdr] at h
  cases hf:Zj1 pre fn with
  | some e=>rw[hf] at h;cases h
  | none =>
   rw[hf] at h
   have ih:=Ztu wd k h
   have hnew:=Ztf h
   cases hn:fn.name==wd with
   | false =>
    simp only[Zzu,Zp4,Zc9,List.any_cons,List.map_cons,List.find?_cons,Za5,hn,Bool.false_and,Bool.false_or] at ih ⊢
    exact ih
   | true =>
    have hw:fn.name=wd:=by simpa using hn
    have hno:Zzu wd k r=false:=by
     rw[Zzu,List.any_eq_false]
     intro g hg
     have:=hnew g hg (Za5 fn) (by simp)
     simp only[Za5] at this
     rw[hw] at this
     simp[Ne.symm this]
    simp only[Zzu] at hno
    simp[Zzu,Zp4,Zc9,Za5,hn,hno]
theorem Zs2:∀(qs:List ByteArray) (ls:List Nat),qs.length=ls.length→(Zb5 (qs.zip ls)).map (·.1)=Zap qs
 | [],ls,_=>by simp[Zb5,Zap]
 | q::qs,[],h=>by simp at h
 | q::qs,x::ls,h=>by
  have:=Zs2 qs ls (by simpa using h)
  simp only[Zb5,Zap,List.zip_cons_cons,List.map_cons] at this ⊢
  rw[this]
section
variable {w:World} {rb:Nat} {fv pv:Value} {fs:List Ze8} {ps:List Zaw} {fns:List Fn}
theorem Zqp {D:Nat→Prop}{e:TypeId}{size:Nat}{v:Value}{n:Nat}{xs:List Value}(h:Zao w D e size v n xs):∃ad cp,v=.slice ad n cp:=by
 rcases h.2 with ⟨g1,g2⟩ | ⟨g,cp,cur,hv,_⟩
 ·exact⟨none,0,by rw[g1,g2]⟩
 ·exact⟨_,_,hv⟩
theorem Z14 (h:PM w rb fv pv fs ps fns)(i:Nat)(hi:i<fns.length)(hwf:WfE (fns[i]'hi).body)(hsz:szE (fns[i]'hi).body≤20000)(hpl:(fns[i]'hi).params.length≤3000):
  Calls prog 58 #[.pointer (some ⟨rb,5,none⟩),.int .i64 ((i:Nat):Int)] w (Zfn (Zj1 ((fns.take i).map Za5) (fns[i]'hi)) w):=by
 have hl:=h.rep.length
 have hif:i<fs.length:=by omega
 obtain⟨r1,r2,⟨qs,ls,q1,q2,q3,q4⟩,r4⟩:=h.rep.at i hif hi
 obtain⟨aad,acp,hpv⟩:=Zqp q3
 obtain⟨lad,lcp,hlv⟩:=Zqp q4
 have hqn:qs.length=(fns[i]'hi).params.length:=by rw[←q2];simp[Zb5,q1]
 rcases Zrs h i (by omega) (fs[i]'hif).name with ⟨h1,h2⟩ | ⟨j,hj,hjm,h1,a2,an,ac2,h2,h3⟩
 ·rw[r1] at h2
  have hb:∃p,ps[(fs[i]'hif).body]?=some p:=by
   cases hb:(fns[i]'hi).body<;>rw[hb,Ze0] at r4
   ·obtain⟨_,p,hp,_⟩:=r4;exact⟨p,hp⟩
   ·obtain⟨_,p,hp,_⟩:=r4;exact⟨p,hp⟩
   ·obtain⟨_,p,hp,_⟩:=r4;exact⟨p,hp⟩
   ·obtain⟨_,p,_,hp,_⟩:=r4;exact⟨p,hp⟩
  have:=Zyx h i hif aad lad acp lcp qs ls q1 hpv hlv h1 (by rw[←hpv];exact q3) (by rw[←hlv];exact q4) (by omega) (nmE ((fns.take i).map Za5) (Zap qs) (fns[i]'hi).body) (fun X hX=>Z1z _ _ _ _ qs X 0 i (fun _=>True) (Nat.le_refl _) hwf (h.below hX) (r4.map (fun _ _ _ h=>h) (Nat.le_refl _) (fun _ _ _ hh=>Zai hh hX)) (by rw[←hpv];exact Zai q3 hX) (by omega) (by omega))
  have e:Zj1 ((fns.take i).map Za5) (fns[i]'hi)=(match Zi9 [] (Zb5 (qs.zip ls)) with | some p=>some (5,p) | none=>nmE ((fns.take i).map Za5) (Zap qs) (fns[i]'hi).body):=by
   rw[Zj1,h2,←q2]
   have hn:(Zb5 (qs.zip ls)).map (·.1)=Zap qs:=Zs2 qs ls q1
   rw[hn]
   simp only[Option.isSome_none,Bool.false_eq_true,if_false]
   cases Zi9 [] (Zb5 (qs.zip ls))<;>rfl
  rw[e]
  exact this
 ·rw[r1] at h3
  have e:Zj1 ((fns.take i).map Za5) (fns[i]'hi)=some (5,(fs[i]'hif).at_):=by
   rw[Zj1,h3,r2];rfl
  rw[e]
  exact Zvl h i hif aad lad qs.length acp ls.length lcp hpv hlv j h1
theorem has_none (h:PM w rb fv pv fs ps fns)(nb:ByteArray)(k:Nat)(hnone:∀r,Zft fs nb.toList fs.length r→r=-1):
  Calls prog 59 #[.pointer (some ⟨rb,5,none⟩),.string nb,.int .i64 ((k:Nat):Int)] w fun e w'=>e=.returned (.bool false)∧w'=w:=by
 have c5:=h.c5
 have cfi:=Zd8 h nb fs.length (Nat.le_refl _)
 obtain⟨ad,cp,rfl⟩:=Zqp h.rf
 go_enter func59,ntmps59
 go_wp2_with (go_at_call 100;refine cfi.mono ?_;rintro r w2 ⟨⟨fr,rfl,hfr⟩,rfl⟩;obtain rfl:=hnone _ hfr;clear hfr)
 go_ret
 exact⟨rfl,rfl⟩
theorem has_some (h:PM w rb fv pv fs ps fns)(nb:ByteArray)(k j:Nat)(hj:j<fs.length)(hfound:∀r,Zft fs nb.toList fs.length r→r=(j:Int))(aad:Option Addr)(an acp:Nat)(hav:(fs[j]'hj).pv=.slice aad an acp):
  Calls prog 59 #[.pointer (some ⟨rb,5,none⟩),.string nb,.int .i64 ((k:Nat):Int)] w fun e w'=>e=.returned (.bool (an==k))∧w'=w:=by
 have c5:=h.c5
 have hf:=h.hf
 have cfi:=Zd8 h nb fs.length (Nat.le_refl _)
 obtain⟨fg,fc,rfl,hd1,hd2,b0,b1,b2,b3,b4⟩:=h.fun j hj
 unfold maxLen at hd2
 rw[hav] at b2
 clear b0 b1 b3 b4
 have e:(an==k)=(((an:Nat):Int)==((k:Nat):Int)):=by
  rw[Bool.eq_iff_iff];simp only[beq_iff_eq];omega
 rw[e]
 go_enter func59,ntmps59
 go_wp2_with (go_at_call 100;refine cfi.mono ?_;rintro r w2 ⟨⟨fr,rfl,hfr⟩,rfl⟩;obtain rfl:=hfound _ hfr;clear hfr)
 go_ret
 exact⟨rfl,rfl⟩
theorem Zmj (h:PM w rb fv pv fs ps fns)(nb:ByteArray)(k:Nat):
  Calls prog 59 #[.pointer (some ⟨rb,5,none⟩),.string nb,.int .i64 ((k:Nat):Int)] w fun e w'=>e=.returned (.bool (Zp4 nb.data.toList k fns))∧w'=w:=by
 have hl:=h.rep.length
 rcases Zrs h fs.length (Nat.le_refl _) nb with ⟨h1,h2⟩ | ⟨j,hj,hjm,h1,a2,an,ac2,h2,h3⟩
 ·rw[hl,List.take_length] at h2
  have:=has_none h nb k h1
  rw[Zp4,h2]
  exact this
 ·rw[hl,List.take_length] at h3
  have:=has_some h nb k j hj h1 a2 an ac2 h2
  rw[Zp4,h3]
  exact this
end
end Go.Proofs.YtliapghpeoaonaaGreatDoor
