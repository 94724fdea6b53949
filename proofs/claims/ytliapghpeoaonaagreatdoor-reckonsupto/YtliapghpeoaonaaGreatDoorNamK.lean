/-
  checkNames: the names of all functions.
-/
import Derived.Test.YtliapghpeoaonaaGreatDoorNamF
set_option maxHeartbeats 2000000
namespace Go.Proofs.YtliapghpeoaonaaGreatDoor
open Go.Proofs.Tryz
open Go.RowKit Go.Maps
attribute [local go_sem ↓] Go.wp_at_zero Go.wp_at_succ
theorem Zyy (fs:List (List UInt8×Nat))(x:List UInt8×Nat)(l:List UInt8):Zc9 (fs++[x]) l=match Zc9 fs l with | some k=>some k | none=>if x.1==l then some x.2 else none:=by
 unfold Zc9
 rw[List.find?_append]
 cases hf:fs.find? fun y=>y.1==l with
 | some y=>simp
 | none =>
  simp only[Option.none_or,Option.map_none]
  cases hx:x.1==l<;>simp[List.find?,hx]
theorem Z35.put {D:DataW Unit}{fs:List (List UInt8×Nat)}(h:Z35 D fs)(hD:IsMap D)(n:List UInt8)(k:Nat)(hn:Zc9 fs n=none):Z35 (D.put (.string n) (.lit (.int .i64 ((k:Nat):Int)))) (fs++[(n,k)]):=by
 intro l
 rw[Zyy]
 by_cases hl:n=l
 ·subst hl
  rw[has_put_same hD (show WideAt.IsKeyLit (.string n) from trivial),atKey_put_same hD (show WideAt.IsKeyLit (.string n) from trivial),hn]
  simp
 ·have hne:(Lit.string l)≠.string n:=by intro e;injection e with e;exact hl e.symm
  have hb:(n==l)=false:=by simpa using hl
  rw[has_put_other hne,atKey_put_other hne,(h l).1,(h l).2]
  cases Zc9 fs l<;>simp[hb]
theorem Z12:Z35 (.map []) []:=fun _=>⟨rfl,rfl⟩
theorem Z1o {fs:List (List UInt8×Nat)}{fn:Fn}(h:Zj1 fs fn=none):Zc9 fs fn.name=none:=by
 unfold Zj1 at h
 split at h
 ·cases h
 ·rename_i g;simpa using g
theorem Zia:∀(l:List FnV) (j:Nat) (hj:j<l.length),(Zcs l)[j*4]?=some (.string l[j].nb)∧(Zcs l)[j*4+1]?=some (.int .i64 ((l[j].at_:Nat):Int))∧(Zcs l)[j*4+2]?=some l[j].pv∧(Zcs l)[j*4+3]?=some l[j].bv
 | [],j,hj=>by simp at hj
 | x::r,0,_=>⟨rfl,rfl,rfl,rfl⟩
 | x::r,j+1,hj=>by
  have:=Zia r j (by simpa using hj)
  rw[show (j+1)*4=j*4+1+1+1+1 by omega,show j*4+1+1+1+1+1=(j*4+1)+1+1+1+1 by omega,show j*4+1+1+1+1+2=(j*4+2)+1+1+1+1 by omega,show j*4+1+1+1+1+3=(j*4+3)+1+1+1+1 by omega]
  simpa[Zcs] using this
theorem Zbu.at {w:World}{D:Nat→Prop}:∀{xs:List FnV} {fns:List Fn},Zbu w D xs fns→∀j (hj:j<xs.length) (hj2:j<fns.length),Zzr w D xs[j] fns[j]
 | [],fns,h,j,hj,hj2=>by simp at hj
 | x::xs,fns,h,j,hj,hj2=>by
  obtain⟨fn,r,rfl,h2,h3⟩:=h
  cases j with
  | zero=>exact h2
  | succ j=>exact Zbu.at h3 j (by simpa using hj) (by simpa using hj2)
def Fn.small (fn:Fn):Prop:=fn.name.length≤2000∧fn.params.length+szE fn.body≤100000
theorem Zo9 (pv:Value)(xs:List FnV)(fns:List Fn)(w:World)(D:Nat→Prop)(aN aA aW:Addr)(hrow:Zao w D 143 4 pv xs.length (Zcs xs))(hF:Zbu w D xs fns)(hN:Zgl w aN aA aW)(hsm:∀fn∈fns,fn.small)(hl:xs.length≤100000):
  Calls prog 93 #[pv] w fun r w'=>r=.returned (Zgn (Zdr [] fns) aN aA aW)∧Below w.heap.size w w':=by
 have hlen:=hF.length
 have hsl:∃ad cap,pv=.slice ad xs.length cap:=by
  rcases hrow.2 with ⟨g1,g2⟩ | ⟨g,cap,cur,hv,_⟩
  ·exact⟨_,_,by rw[g1,g2]⟩
  ·exact⟨_,_,hv⟩
 obtain⟨ad,cap,rfl⟩:=hsl
 generalize hR:Zgn (Zdr [] fns) aN aA aW=R
 have HR:Hid (Zgn (Zdr [] fns) aN aA aW=R):=hR
 clear hR
 have hmm:=@run_makeMap prog
 go_enter func93,ntmps93
 go_wp2
 clear hmm
 go_loopg [10] xs.length (fun m i wr=>∃(j:Nat),m=xs.length-j∧i=.int .i64 j∧j≤xs.length∧Below w.heap.size w wr∧Zcw wr w.heap.size ((fns.take j).map Za5)∧Zdr [] fns=Zdr ((fns.take j).map Za5) (fns.drop j))
 case atStart=>exact⟨0,by omega,rfl,by omega,Zab w _,⟨0,.map [],World.ownsMap_made _ _ _ _,by simp,by simpa using Z12⟩,by simp⟩
 case round =>
  obtain⟨j,rfl,rfl,hj,bw,hA,hnm⟩:=hrel
  have HNM:Aside (Zdr [] fns=Zdr ((fns.take j).map Za5) (fns.drop j)):=hnm
  clear hnm
  have hwz:=bw.size
  by_cases hjl:j<xs.length
  ·obtain⟨g,cap',hpv,hg,hc1,hc2,hcell⟩:=hrow.cell (by omega)
   cases hpv
   obtain⟨e0,e1,e2,e3⟩:=Zia xs j hjl
   have hjf:j<fns.length:=by omega
   obtain⟨f1,f2,⟨ps,hps,hpr⟩,hbody⟩:=hF.at j hjl hjf
   obtain⟨sm1,sm2⟩:=hsm fns[j] (List.getElem_mem hjf)
   obtain⟨tb,xb,hbv⟩:=hbody.iface
   have hpsl:∃pad pcap,xs[j].pv=.slice pad ps.length pcap:=by
    rcases hpr.2 with ⟨g1,g2⟩ | ⟨_,_,_,hv,_⟩
    ·exact⟨_,_,by rw[g1,g2]⟩
    ·exact⟨_,_,hv⟩
   obtain⟨pad,pcap,hpv⟩:=hpsl
   have c0:wr.cell? ⟨g,j*4,none⟩=some (.string xs[j].nb):=Below.cellv bw (by rw[hcell (j*4) (by omega)];exact e0)
   have c1:wr.cell? ⟨g,j*4+1,none⟩=some (.int .i64 ((fns[j].at_:Nat):Int)):=Below.cellv bw (by rw[hcell (j*4+1) (by omega),e1,f2])
   have c2:wr.cell? ⟨g,j*4+2,none⟩=some (.slice pad ps.length pcap):=Below.cellv bw (by rw[hcell (j*4+2) (by omega),e2,hpv])
   have c3:wr.cell? ⟨g,j*4+3,none⟩=some (.iface tb xb):=Below.cellv bw (by rw[hcell (j*4+3) (by omega),e3,hbv])
   have hgl:=Zae c0
   unfold maxLen at hc2
   have hnb:xs[j].nb.size≤2000:=by rw[←f1,Zax] at sm1;exact sm1
   rw[hpv] at hpr
   rw[hbv] at hbody
   have bX:Below w.heap.size w (wr.alloc (Obj.cells #[.string xs[j].nb,.int .i64 ((fns[j].at_:Nat):Int),.slice pad ps.length pcap,.iface tb xb] 143)):=bw.trans ((Zab wr _).mono hwz)
   have n4:=Zh4 wr (.string xs[j].nb) (.int .i64 ((fns[j].at_:Nat):Int)) (.slice pad ps.length pcap) (.iface tb xb) 143
   have cf:=Zla xs[j].nb fns[j] pad pcap ps tb xb w.heap.size ((fns.take j).map Za5) _ D aN aA aW f1 hps (Zai hpr bX) (hbody.below bX) hnb (hA.alloc _) (hN.below bX) sm2
   have hA2:=hA.alloc (Obj.cells #[.string xs[j].nb,.int .i64 ((fns[j].at_:Nat):Int),.slice pad ps.length pcap,.iface tb xb] 143)
   have hdrop:fns.drop j=fns[j]::fns.drop (j+1):=List.drop_eq_getElem_cons hjf
   have hpsl2:ps.length=fns[j].params.length:=by rw[←hps];simp[Zas]
   have htake:(fns.take (j+1)).map Za5=(fns.take j).map Za5++[Za5 fns[j]]:=by rw[List.take_succ_eq_append_getElem hjf,List.map_append];rfl
   have hn100:ps.length≤100000:=by omega
   have hfl:((fns.take j).map Za5).length≤100000:=by simp;omega
   have HNM2:Aside (Zdr [] fns=match Zj1 ((fns.take j).map Za5) fns[j] with | some e=>some e | none=>Zdr ((fns.take (j+1)).map Za5) (fns.drop (j+1))):=by
    show _=_
    rw[HNM.out,hdrop,Zdr,htake]
    cases Zj1 ((fns.take j).map Za5) fns[j]<;>rfl
   have HT:Hid ((fns.take (j+1)).map Za5=(fns.take j).map Za5++[Za5 fns[j]]):=htake
   have HS:Hid (Za5 fns[j]=(xs[j].nb.data.toList,ps.length)):=by show _=_;rw[f1,hpsl2];rfl
   have HF1:Hid (xs[j].nb.data.toList=fns[j].name):=f1
   have HLN:Hid (xs.length=fns.length):=hlen
   clear hlen
   clear HNM hdrop htake hpsl2 hps f1 f2 hF hsm hrow hcell e0 e1 e2 e3 hpv hbv hpr hbody sm1 sm2 hN hA
   generalize hfs:(fns.take j).map Za5=fs at *
   generalize hfn:fns[j]=fn at *
   generalize hnbb:xs[j].nb=nb at *
   clear hfs hfn hnbb
   cases hq:Zj1 fs fn with
   | some x =>
    rw[hq] at cf
    obtain⟨c,p⟩:=x
    obtain⟨a,ha⟩:∃a,Zgn (some (c,p)) aN aA aW=Za2 p a:=⟨_,rfl⟩
    rw[ha] at cf
    have HP:Hid (R=Za2 p a):=by show _=_;rw[←HR.out,HNM2.out,hq];exact ha
    clear HNM2 hq ha HT HS HF1 n4 hA2
    go_wp2_with (go_at_call 146;refine cf.mono ?_;rintro e w2 ⟨rfl,hb2⟩)
    go_ret
    exact⟨by rw[HP.out];rfl,bX.trans (hb2.mono bX.size)⟩
   | none =>
    rw[hq] at cf
    have HP:Aside (Zdr [] fns=Zdr ((fns.take (j+1)).map Za5) (fns.drop (j+1))):=by show _=_;rw[HNM2.out,hq]
    have HLK:Hid (Zc9 fs fn.name=none):=Z1o hq
    have hcf:Calls prog 146 #[.agg #[.string nb,.int .i64 ((fn.at_:Nat):Int),.slice pad ps.length pcap,.iface tb xb],.map (some w.heap.size)] (wr.alloc (Obj.cells #[.string nb,.int .i64 ((fn.at_:Nat):Int),.slice pad ps.length pcap,.iface tb xb] 143)) fun r w'=>r=.returned .nilIface∧Below (wr.alloc (Obj.cells #[.string nb,.int .i64 ((fn.at_:Nat):Int),.slice pad ps.length pcap,.iface tb xb] 143)).heap.size (wr.alloc (Obj.cells #[.string nb,.int .i64 ((fn.at_:Nat):Int),.slice pad ps.length pcap,.iface tb xb] 143)) w':=cf
    have hkey:keyOf prog 9 (.string nb)=some (.string nb.data.toList):=WideMaps.keyOf_string_mk underlying9 (by unfold maxLen;omega)
    obtain⟨n,Dm,hown,hn,hD⟩:=hA2
    have hval:plainElem (H:=Unit) prog 3 (.int .i64 ((ps.length:Nat):Int))=some (.lit (.int .i64 ((ps.length:Nat):Int)),[]):=plainElem_int underlying3 (by
     simp only[Lit.wf,IntKind.min,IntKind.max,IntKind.signed,IntKind.bits,Bool.and_eq_true,decide_eq_true_eq,if_true];omega)
    clear HNM2 hq cf
    go_wp2_with (first
     |(go_at_call 146;refine hcf.mono ?_;rintro e w2 ⟨rfl,hb2⟩;obtain⟨es,clock,g1,g2⟩:=hown;have hown2:w2.ownsMap prog 9 (plainElem prog 3) w.heap.size n Dm:=⟨es,clock,by rw[hb2.block _ (Zag g1)];exact g1,g2⟩;have m0:=Below.cellv hb2 n4.1;have m2:=Below.cellv hb2 n4.2.2.1;clear hcf n4)
     |(at_mapUpdate;refine wpList_mapUpdate_own _ rfl _ _ _ 316 rfl 9 3 law underlying316 _ w.heap.size n Dm rfl hown2 (by unfold maxLen;omega) _ _ (.string nb.data.toList) rfl rfl hkey _ [] hval ?_;intro w3 hown3 hgrow3))
    go_roundg (xs.length-(j+1))
    case measure=>omega
    case rel =>
     refine⟨j+1,rfl,by go_num,by omega,?_,⟨n+1,_,hown3,?_,?_⟩,HP.out⟩
     ·exact Below.grown (bX.trans (hb2.mono bX.size)) hgrow3 (Nat.le_trans bX.size hb2.size) (fun k hk=>by injection hk with hk;omega)
     ·rw[HT.out];simp;omega
     ·rw[HT.out,HS.out]
      exact hD.put hown2.isMap _ _ (by rw[HF1.out];exact HLK.out)
  ·have hjj:j=xs.length:=by omega
   subst hjj
   have HP:Hid (R=.nilIface):=by
    show _=_
    rw[←HR.out,HNM.out,hlen,List.drop_length]
    rfl
   clear HNM
   go_wp2
   go_ret
   exact⟨by rw[HP.out];rfl,bw⟩
def Zjo (wd:ByteArray)(k:Nat)(nb:ByteArray)(n:Nat):Bool:=nb.toList==wd.toList&&n==k
theorem Z2d (wd nb:ByteArray)(k n at_:Nat)(ad:Option Addr)(cap:Nat)(bv:Value)(Bw Bk:Nat)(w:World)(_hn:n≤100000)(hk:k≤9223372036854775807)(cw:w.cell? ⟨Bw,0,none⟩=some (.string wd))(ck:w.cell? ⟨Bk,0,none⟩=some (.int .i64 ((k:Nat):Int))):
  Calls prog 104 #[.agg #[.string nb,.int .i64 ((at_:Nat):Int),.slice ad n cap,bv],.pointer (some ⟨Bw,0,none⟩),.pointer (some ⟨Bk,0,none⟩)] w fun r w'=>r=.returned (.bool (Zjo wd k nb n))∧Below w.heap.size w w':=by
 have l1:=Zae cw
 have l2:=Zae ck
 cases h1:(nb.toList==wd.toList)
 ·have e:Zjo wd k nb n=false:=by simp[Zjo,h1]
  rw[e]
  go_enter func104,ntmps104
  go_wp2
  go_ret
  exact⟨rfl,Zab w _⟩
 ·by_cases h2:n=k
  ·have e:Zjo wd k nb n=true:=by simp[Zjo,h1,h2]
   rw[e]
   subst h2
   go_enter func104,ntmps104
   go_wp2
   go_ret
   exact⟨rfl,Zab w _⟩
  ·have e:Zjo wd k nb n=false:=by simp[Zjo,h2]
   rw[e]
   go_enter func104,ntmps104
   go_wp2
   go_ret
   exact⟨Zdn (by simp;omega),Zab w _⟩
def Zeq (wd:ByteArray)(k:Nat)(l:List (ByteArray×Nat)):Bool:=l.any fun x=>Zjo wd k x.1 x.2
def Zcm (wd:ByteArray)(k:Nat)(l:List (ByteArray×Nat)):Option Nat:=l.findIdx? fun x=>Zjo wd k x.1 x.2
def idxV:Option Nat→Int
 | none=>-1
 | some j=>j
theorem Ztz {wd:ByteArray}{k:Nat}{l:List (ByteArray×Nat)}(h:Zcm wd k l=none):Zeq wd k l=false:=by
 rw[Zcm,List.findIdx?_eq_none_iff] at h
 rw[Zeq,List.any_eq_false]
 intro x hx
 rw[h x hx]
 decide
theorem Zlz {wd:ByteArray}{k j:Nat}{l:List (ByteArray×Nat)}(h:Zcm wd k l=some j):Zeq wd k l=true∧j<l.length:=by
 rw[Zcm,List.findIdx?_eq_some_iff_getElem] at h
 obtain⟨h1,h2,_⟩:=h
 exact⟨by rw[Zeq,List.any_eq_true];exact⟨_,List.getElem_mem h1,h2⟩,h1⟩
def FnLen (x:FnV)(n:Nat):Prop:=n≤100000∧∃ad cap,x.pv=.slice ad n cap
def Zg6:List FnV→List Nat→Prop
 | [],ns=>ns=[]
 | x::xs,ns=>∃n r,ns=n::r∧FnLen x n∧Zg6 xs r
theorem Zg6.length:∀{xs:List FnV} {ns:List Nat},Zg6 xs ns→xs.length=ns.length
 | [],ns,h=>by rw[show ns=[] from h];rfl
 | x::xs,ns,h=>by obtain⟨n,r,rfl,_,h3⟩:=h;simp[Zg6.length h3]
theorem Zg6.at:∀{xs:List FnV} {ns:List Nat},Zg6 xs ns→∀j (hj:j<xs.length) (hj2:j<ns.length),FnLen xs[j] ns[j]
 | [],ns,h,j,hj,hj2=>by simp at hj
 | x::xs,ns,h,j,hj,hj2=>by
  obtain⟨n,r,rfl,h2,h3⟩:=h
  cases j with
  | zero=>exact h2
  | succ j=>exact Zg6.at h3 j (by simpa using hj) (by simpa using hj2)
def Zcr (xs:List FnV)(ns:List Nat):List (ByteArray×Nat):=(xs.map (·.nb)).zip ns
theorem Zrm (pv:Value)(xs:List FnV)(ns:List Nat)(wd:ByteArray)(k Bw Bk:Nat)(w:World)(D:Nat→Prop)(hrow:Zao w D 143 4 pv xs.length (Zcs xs))(hns:Zg6 xs ns)(hl:xs.length≤100000)(hk:k≤9223372036854775807)(cw:w.cell? ⟨Bw,0,none⟩=some (.string wd))(ck:w.cell? ⟨Bk,0,none⟩=some (.int .i64 ((k:Nat):Int))):
  Calls prog 103 #[pv,.func (.func 104) #[] #[.pointer (some ⟨Bw,0,none⟩),.pointer (some ⟨Bk,0,none⟩)]] w fun e w'=>e=.returned (.int .i64 (idxV (Zcm wd k (Zcr xs ns))))∧Below w.heap.size w w':=by
 have hlen:=hns.length
 have hsl:∃ad cap,pv=.slice ad xs.length cap:=by
  rcases hrow.2 with ⟨g1,g2⟩ | ⟨g,cap,cur,hv,_⟩
  ·exact⟨_,_,by rw[g1,g2]⟩
  ·exact⟨_,_,hv⟩
 obtain⟨ad,cap,rfl⟩:=hsl
 have hzl:(Zcr xs ns).length=xs.length:=by simp[Zcr,hlen]
 have HZ:Hid ((Zcr xs ns).length=xs.length):=hzl
 have hzat:∀j (hj:j<xs.length) (hj2:j<ns.length) (hj3:j<(Zcr xs ns).length),(Zcr xs ns)[j]=(xs[j].nb,ns[j]):=fun j hj hj2 hj3=>by simp[Zcr]
 have HLN:Hid (xs.length=ns.length):=hlen
 clear hlen hzl
 go_enter func103,ntmps103
 go_wp2
 go_loopg [8] xs.length (fun m i wr=>∃j:Nat,m=xs.length-j∧i=.int .i64 j∧j≤xs.length∧Below w.heap.size w wr∧Zcm wd k (Zcr xs ns)=(Zcm wd k ((Zcr xs ns).drop j)).map (·+j))
 case atStart=>exact⟨0,by omega,rfl,by omega,Below.refl _ _,by simp⟩
 case round =>
  obtain⟨j,rfl,rfl,hj,bw,heq⟩:=hrel
  have HQ:Aside (Zcm wd k (Zcr xs ns)=(Zcm wd k ((Zcr xs ns).drop j)).map (·+j)):=heq
  clear heq
  have hwz:=bw.size
  have cw2:wr.cell? ⟨Bw,0,none⟩=some (.string wd):=Below.cellv bw cw
  have ck2:wr.cell? ⟨Bk,0,none⟩=some (.int .i64 ((k:Nat):Int)):=Below.cellv bw ck
  by_cases hjl:j<xs.length
  ·obtain⟨g,cap',hpv,hg,hc1,hc2,hcell⟩:=hrow.cell (by omega)
   cases hpv
   obtain⟨e0,e1,e2,e3⟩:=Zia xs j hjl
   have hjn:j<ns.length:=by have h2:xs.length=ns.length:=HLN.out;omega
   obtain⟨hn1,pad,pcap,hpv⟩:=hns.at j hjl hjn
   have c0:wr.cell? ⟨g,j*4,none⟩=some (.string xs[j].nb):=Below.cellv bw (by rw[hcell (j*4) (by omega)];exact e0)
   have c1:wr.cell? ⟨g,j*4+1,none⟩=some (.int .i64 ((xs[j].at_:Nat):Int)):=Below.cellv bw (by rw[hcell (j*4+1) (by omega)];exact e1)
   have c2:wr.cell? ⟨g,j*4+2,none⟩=some (.slice pad ns[j] pcap):=Below.cellv bw (by rw[hcell (j*4+2) (by omega),e2,hpv])
   have c3:wr.cell? ⟨g,j*4+3,none⟩=some xs[j].bv:=Below.cellv bw (by rw[hcell (j*4+3) (by omega),e3])
   have hgl:=Zae c0
   unfold maxLen at hc2
   have hj3:j<(Zcr xs ns).length:=by have h2:(Zcr xs ns).length=xs.length:=HZ.out;omega
   have HQ2:Aside (Zcm wd k (Zcr xs ns)=if Zjo wd k xs[j].nb ns[j] then some j else (Zcm wd k ((Zcr xs ns).drop (j+1))).map (·+(j+1))):=by
    show _=_
    rw[HQ.out,List.drop_eq_getElem_cons hj3,hzat j hjl hjn hj3]
    simp only[Zcm,List.findIdx?_cons]
    split
    ·simp
    ·rw[Option.map_map]
     congr 1
     funext x
     simp only[Function.comp]
     omega
   have cf:=Z2d wd xs[j].nb k ns[j] xs[j].at_ pad pcap xs[j].bv Bw Bk wr hn1 hk cw2 ck2
   clear HQ hzat hrow hns hcell e0 e1 e2 e3 hpv cw ck
   generalize xs[j].nb=nb at *
   generalize xs[j].at_=at_ at *
   generalize xs[j].bv=bv at *
   generalize ns[j]=n at *
   cases hs:Zjo wd k nb n
   ·rw[hs] at cf
    have HP:Aside (Zcm wd k (Zcr xs ns)=(Zcm wd k ((Zcr xs ns).drop (j+1))).map (·+(j+1))):=by show _=_;rw[HQ2.out,hs];rfl
    clear HQ2 hs
    go_wp2_with (go_at_call 104;refine cf.mono ?_;rintro e w2 ⟨rfl,hb2⟩)
    go_roundg (xs.length-(j+1))
    case measure=>omega
    case rel=>exact⟨j+1,rfl,by go_num,by omega,bw.trans (hb2.mono hwz),HP.out⟩
   ·rw[hs] at cf
    have HP:Hid (Zcm wd k (Zcr xs ns)=some j):=by show _=_;rw[HQ2.out,hs];rfl
    clear HQ2 hs
    go_wp2_with (go_at_call 104;refine cf.mono ?_;rintro e w2 ⟨rfl,hb2⟩)
    go_ret
    exact⟨by rw[HP.out];rfl,bw.trans (hb2.mono hwz)⟩
  ·have hjj:j=xs.length:=by omega
   subst hjj
   have HP:Hid (Zcm wd k (Zcr xs ns)=none):=by
    show _=_
    rw[HQ.out,List.drop_eq_nil_of_le (by have h2:(Zcr xs ns).length=xs.length:=HZ.out;omega)]
    rfl
   clear HQ hzat
   go_wp2
   go_ret
   exact⟨by rw[HP.out];rfl,bw⟩
def fnV (x:FnV):Value:=.agg #[.string x.nb,.int .i64 ((x.at_:Nat):Int),x.pv,x.bv]
def Zqb:Value:=.agg #[.string ⟨#[]⟩,.int .i64 0,.slice none 0 0,.nilIface]
def Zy6 (xs:List FnV):Option Nat→Value
 | none=>.tuple #[Zqb,.bool false]
 | some j=>match xs[j]? with
  | none=>.tuple #[Zqb,.bool false]
  | some x=>.tuple #[fnV x,.bool true]
structure Zuh (X:World)(b:Nat)(pv:Value)(wd:ByteArray)(k:Nat):Prop where
 a0:X.cell? ⟨b,0,none⟩=some pv
 a1:X.cell? ⟨b+1,0,none⟩=some (.string wd)
 a2:X.cell? ⟨b+2,0,none⟩=some (.int .i64 ((k:Nat):Int))
 a3:X.cell? ⟨b+3,0,none⟩=some (.string ⟨#[]⟩)
 a4:X.cell? ⟨b+3,1,none⟩=some (.int .i64 0)
 a5:X.cell? ⟨b+3,2,none⟩=some (.slice none 0 0)
 a6:X.cell? ⟨b+3,3,none⟩=some .nilIface
 f3:∀i,X.frozen? ⟨b+3,i,none⟩=false
theorem Zuh.below {X Y:World}{b:Nat}{pv:Value}{wd:ByteArray}{k:Nat}(h:Zuh X b pv wd k)(hb:Below X.heap.size X Y):Zuh Y b pv wd k:=by
 have hl:=Zae h.a3
 exact⟨Below.cellv hb h.a0,Below.cellv hb h.a1,Below.cellv hb h.a2,Below.cellv hb h.a3,Below.cellv hb h.a4,Below.cellv hb h.a5,Below.cellv hb h.a6,fun i=>by rw[hb.frozen (p:=⟨b+3,i,none⟩) hl];exact h.f3 i⟩
theorem Zuh.new (w:World)(pv:Value)(wd:ByteArray)(k:Nat)(t0 t1 t2 t3:TypeId):Zuh ((((w.alloc (.cells #[pv] t0)).alloc (.cells #[.string wd] t1)).alloc (.cells #[.int .i64 ((k:Nat):Int)] t2)).alloc (.cells #[.string ⟨#[]⟩,.int .i64 0,.slice none 0 0,.nilIface] t3)) w.heap.size pv wd k:=by
 have h0:(w.alloc (Obj.cells #[pv] t0)).heap[w.heap.size]?=some (.cells #[pv] t0):=heap_alloc_new _ _
 have h1:=heap_alloc_new (w.alloc (Obj.cells #[pv] t0)) (.cells #[.string wd] t1)
 have h2:=heap_alloc_new ((w.alloc (Obj.cells #[pv] t0)).alloc (.cells #[.string wd] t1)) (.cells #[.int .i64 ((k:Nat):Int)] t2)
 have h3:=heap_alloc_new (((w.alloc (Obj.cells #[pv] t0)).alloc (.cells #[.string wd] t1)).alloc (.cells #[.int .i64 ((k:Nat):Int)] t2)) (.cells #[.string ⟨#[]⟩,.int .i64 0,.slice none 0 0,.nilIface] t3)
 simp only[World.size_alloc] at h1 h2 h3
 refine⟨Zac (Zac (Zac ?_)),Zac (Zac ?_),Zac ?_,?_,?_,?_,?_,?_⟩
 ·unfold World.cell?;rw[h0];rfl
 ·unfold World.cell?;rw[h1];rfl
 ·unfold World.cell?;rw[h2];rfl
 ·unfold World.cell?;rw[h3];rfl
 ·unfold World.cell?;rw[h3];rfl
 ·unfold World.cell?;rw[h3];rfl
 ·unfold World.cell?;rw[h3];rfl
 ·intro i;unfold World.frozen?;rw[h3];simp
theorem Z2j (pv:Value)(xs:List FnV)(ns:List Nat)(wd:ByteArray)(k:Nat)(w:World)(D:Nat→Prop)(hbv:∀x∈xs,∃t y,x.bv=Value.iface t y)(hrow:Zao w D 143 4 pv xs.length (Zcs xs))(hns:Zg6 xs ns)(hl:xs.length≤100000)(hk:k≤9223372036854775807):
  Calls prog 60 #[.agg #[pv],.string wd,.int .i64 ((k:Nat):Int)] w fun e w'=>e=.returned (Zy6 xs (Zcm wd k (Zcr xs ns)))∧Below w.heap.size w w':=by
 have hmf:∀(fn:Go.Fn) (first cap:Array Value) (w:World),(Instr.makeFunc fn first cap).run prog w=.ok (.func fn first cap) w:=fun _ _ _ _=>rfl
 have fb:=Zuh.new w pv wd k 79 9 3 143
 generalize hX:((((w.alloc (.cells #[pv] 79)).alloc (.cells #[.string wd] 9)).alloc (.cells #[.int .i64 ((k:Nat):Int)] 3)).alloc (.cells #[.string ⟨#[]⟩,.int .i64 0,.slice none 0 0,.nilIface] 143))=X at fb
 have bX:Below w.heap.size w X:=by
  rw[←hX]
  exact ((((Below.refl _ _).alloc (Nat.le_refl _) _).alloc (by simp) _).alloc (by simp;omega) _).alloc (by simp;omega) _
 have hXz:X.heap.size=w.heap.size+4:=by rw[←hX];simp
 have ci:=Zrm pv xs ns wd k (w.heap.size+1) (w.heap.size+2) X D (Zai hrow bX) hns hl hk fb.a1 fb.a2
 have hzl:(Zcr xs ns).length=xs.length:=by simp[Zcr,hns.length]
 have hsl:∃ad cap,pv=.slice ad xs.length cap:=by
  rcases hrow.2 with ⟨g1,g2⟩ | ⟨g,cap,cur,hv,_⟩
  ·exact⟨_,_,by rw[g1,g2]⟩
  ·exact⟨_,_,hv⟩
 obtain⟨ad,cap,rfl⟩:=hsl
 have HX:Hid (_=X):=hX
 cases hfs:Zcm wd k (Zcr xs ns) with
 | none =>
  rw[hfs] at ci
  have ci2:Calls prog 103 #[.slice ad xs.length cap,.func (.func 104) #[] #[.pointer (some ⟨w.heap.size+1,0,none⟩),.pointer (some ⟨w.heap.size+2,0,none⟩)]] X fun e w'=>e=.returned (.int .i64 (-1))∧Zuh w' w.heap.size (.slice ad xs.length cap) wd k∧Below w.heap.size w w':=ci.mono fun e w' ⟨h1,h2⟩=>⟨h1,fb.below h2,bX.trans (h2.mono bX.size)⟩
  clear ci hrow hns hfs hzl fb
  rw[←hX] at ci2
  clear hX HX hXz
  go_enter func60,ntmps60
  go_wp2_with fail
  refine ci2.mono ?_
  rintro e w2 ⟨rfl,⟨a0,a1,a2,a3,a4,a5,a6,f3⟩,bw⟩
  have f30:=f3 0
  have f31:=f3 1
  have f32:=f3 2
  have f33:=f3 3
  clear ci2 f3
  go_wp2
  exact bodyPost_ret (v:=.tuple #[Zqb,.bool false]) (by simp[results,results60,go_sem,a3,a4,a5,a6,Zqb]) rfl ⟨rfl,(((bw.setCell (p:=⟨w.heap.size+3,0,none⟩) (by simp) _).setCell (p:=⟨w.heap.size+3,1,none⟩) (by simp) _).setCell (p:=⟨w.heap.size+3,2,none⟩) (by simp) _).setCell (p:=⟨w.heap.size+3,3,none⟩) (by simp) _⟩
 | some j =>
  rw[hfs] at ci
  obtain⟨_,hj⟩:=Zlz hfs
  rw[hzl] at hj
  obtain⟨g,cap',hpv,hg,hc1,hc2,hcell⟩:=hrow.cell (by omega)
  cases hpv
  obtain⟨e0,e1,e2,e3⟩:=Zia xs j hj
  have r0:w.cell? ⟨g,j*4,none⟩=some (.string xs[j].nb):=by rw[hcell (j*4) (by omega)];exact e0
  have r1:w.cell? ⟨g,j*4+1,none⟩=some (.int .i64 ((xs[j].at_:Nat):Int)):=by rw[hcell (j*4+1) (by omega)];exact e1
  have r2:w.cell? ⟨g,j*4+2,none⟩=some xs[j].pv:=by rw[hcell (j*4+2) (by omega)];exact e2
  have r3:w.cell? ⟨g,j*4+3,none⟩=some xs[j].bv:=by rw[hcell (j*4+3) (by omega)];exact e3
  have hgl:=Zae r0
  simp only at hgl
  have hfv:Zy6 xs (some j)=.tuple #[fnV xs[j],.bool true]:=by simp[Zy6,hj]
  rw[hfv]
  have hgne:g≠w.heap.size+3:=by omega
  have hjn:j<ns.length:=by rw[←hns.length];exact hj
  obtain⟨pn,pad,pcap,hpv⟩:∃pn pad pcap,xs[j].pv=.slice pad pn pcap:=by
   obtain⟨_,pad,pcap,h⟩:=hns.at j hj hjn
   exact⟨_,pad,pcap,h⟩
  obtain⟨tb,xb,hbx⟩:=hbv xs[j] (List.getElem_mem hj)
  have hji:((j:Nat):Int)<((xs.length:Nat):Int):=by omega
  have hji0:(0:Int)≤((j:Nat):Int):=by omega
  have ci2:Calls prog 103 #[.slice (some ⟨g,0,none⟩) xs.length cap,.func (.func 104) #[] #[.pointer (some ⟨w.heap.size+1,0,none⟩),.pointer (some ⟨w.heap.size+2,0,none⟩)]] X fun e w'=>e=.returned (.int .i64 ((j:Nat):Int))∧Zuh w' w.heap.size (.slice (some ⟨g,0,none⟩) xs.length cap) wd k∧Below w.heap.size w w':=ci.mono fun e w' ⟨h1,h2⟩=>⟨h1,fb.below h2,bX.trans (h2.mono bX.size)⟩
  unfold maxLen at hc2
  rw[fnV,hpv,hbx]
  rw[hpv] at r2
  rw[hbx] at r3
  clear ci hrow hfs hzl fb hfv hcell e0 e1 e2 e3 hbv hpv hbx hjn hns
  generalize xs[j].nb=nb at *
  generalize xs[j].at_=at_ at *
  rw[←hX] at ci2
  clear hX HX hXz
  go_enter func60,ntmps60
  go_wp2_with fail
  refine ci2.mono ?_
  rintro e w2 ⟨rfl,⟨a0,a1,a2,a3,a4,a5,a6,f3⟩,bw⟩
  have f30:=f3 0
  have f31:=f3 1
  have f32:=f3 2
  have f33:=f3 3
  have s0:=Below.cellv bw r0
  have s1:=Below.cellv bw r1
  have s2:=Below.cellv bw r2
  have s3:=Below.cellv bw r3
  clear ci2 f3 r0 r1 r2 r3
  go_wp2
  exact bodyPost_ret (v:=.tuple #[.agg #[.string nb,.int .i64 ((at_:Nat):Int),.slice pad pn pcap,.iface tb xb],.bool true]) (by simp[results,results60,go_sem,a3,a4,a5,a6]) rfl ⟨rfl,(((bw.setCell (p:=⟨w.heap.size+3,0,none⟩) (by simp) _).setCell (p:=⟨w.heap.size+3,1,none⟩) (by simp) _).setCell (p:=⟨w.heap.size+3,2,none⟩) (by simp) _).setCell (p:=⟨w.heap.size+3,3,none⟩) (by simp) _⟩
def Ztm (l:List (ByteArray×Nat)):Bool:=Zeq ⟨#[105,110,105,116]⟩ 0 l&&Zeq ⟨#[117,112,100,97,116,101]⟩ 2 l&&Zeq ⟨#[118,105,101,119]⟩ 1 l
def someFn (s:ByteArray)(z:Int)(ad:Option Addr)(n cap:Nat)(d:Value):Value:=.agg #[.string s,.int .i64 z,.slice ad n cap,d]
theorem Z2k (xs:List FnV)(ns:List Nat)(wd:ByteArray)(k:Nat)(hns:Zg6 xs ns)(hbv:∀x∈xs,∃t y,x.bv=Value.iface t y):∃s z ad n cap d,Zy6 xs (Zcm wd k (Zcr xs ns))=.tuple #[.agg #[.string s,.int .i64 z,.slice ad n cap,d],.bool (Zeq wd k (Zcr xs ns))]∧(d=.nilIface∨∃t y,d=.iface t y):=by
 have hl:=hns.length
 cases h:Zcm wd k (Zcr xs ns) with
 | none=>rw[Ztz h];exact⟨_,_,_,_,_,_,rfl,Or.inl rfl⟩
 | some j =>
  obtain⟨h1,h2⟩:=Zlz h
  rw[h1]
  have hj:j<xs.length:=by simpa[Zcr,hl] using h2
  obtain⟨_,pad,pcap,hpv⟩:=hns.at j hj (by omega)
  obtain⟨t,y,hb⟩:=hbv xs[j] (List.getElem_mem hj)
  simp only[Zy6,List.getElem?_eq_getElem hj,fnV,hpv,hb]
  exact⟨_,_,_,_,_,_,rfl,Or.inr ⟨_,_,rfl⟩⟩
theorem Zvq (ad:Option Addr)(n cap:Nat)(xs:List FnV)(ns:List Nat)(w:World)(D:Nat→Prop)(hbv:∀x∈xs,∃t y,x.bv=Value.iface t y)(hrow:Zao w D 143 4 (.slice ad n cap) xs.length (Zcs xs))(hns:Zg6 xs ns)(hl:xs.length≤100000):
  Calls prog 94 #[.agg #[.slice ad n cap]] w fun e w'=>e=.returned (.bool (Ztm (Zcr xs ns)))∧Below w.heap.size w w':=by
 have hF:∀(wd:ByteArray) (k:Nat) (_:k≤100) (w':World),Below w.heap.size w w'→Calls prog 60 #[.agg #[.slice ad n cap],.string wd,.int .i64 ((k:Nat):Int)] w' fun e w''=>(∃s z ad n cap d,e=.returned (.tuple #[.agg #[.string s,.int .i64 z,.slice ad n cap,d],.bool (Zeq wd k (Zcr xs ns))])∧(d=.nilIface∨∃t y,d=.iface t y))∧Below w'.heap.size w' w'':=fun wd k hk w' hb=>(Z2j _ xs ns wd k w' D hbv (Zai hrow hb) hns hl (by omega)).mono fun e w'' ⟨h1,h2⟩=>by
  obtain⟨s,z,ad,n,cap,d,h,hd⟩:=Z2k xs ns wd k hns hbv
  exact⟨⟨s,z,ad,n,cap,d,by rw[h1,h],hd⟩,h2⟩
 have h1:=hF ⟨#[105,110,105,116]⟩ 0 (by omega)
 have h2:=hF ⟨#[117,112,100,97,116,101]⟩ 2 (by omega)
 have h3:=hF ⟨#[118,105,101,119]⟩ 1 (by omega)
 have HR:Hid (Ztm (Zcr xs ns)=(Zeq ⟨#[105,110,105,116]⟩ 0 (Zcr xs ns)&&Zeq ⟨#[117,112,100,97,116,101]⟩ 2 (Zcr xs ns)&&Zeq ⟨#[118,105,101,119]⟩ 1 (Zcr xs ns))):=rfl
 clear hrow hns hF
 generalize Zeq ⟨#[105,110,105,116]⟩ 0 (Zcr xs ns)=x1 at *
 generalize Zeq ⟨#[117,112,100,97,116,101]⟩ 2 (Zcr xs ns)=x2 at *
 generalize Zeq ⟨#[118,105,101,119]⟩ 1 (Zcr xs ns)=x3 at *
 generalize Ztm (Zcr xs ns)=mo at *
 have e:mo=(x1&&x2&&x3):=HR.out
 subst e
 clear HR
 have bA:=Zab w (Obj.cells #[.slice ad n cap] 79)
 have n0:(w.alloc (Obj.cells #[.slice ad n cap] 79)).cell? ⟨w.heap.size,0,none⟩=some (.slice ad n cap):=by
  have h:(w.alloc (Obj.cells #[.slice ad n cap] 79)).heap[w.heap.size]?=some (.cells #[.slice ad n cap] 79):=heap_alloc_new _ _
  unfold World.cell?;rw[h];rfl
 go_enter func94,ntmps94
 go_wp2_with fail
 refine (h1 _ bA).mono ?_
 rintro e w1 ⟨⟨s1,z1,p1,n1,q1,d1,rfl,hd1⟩,hb1⟩
 have m1:=Below.cellv hb1 n0
 have bb1:=bA.trans (hb1.mono bA.size)
 have hl1:=Zae m1
 clear n0
 rcases hd1 with rfl | ⟨t1,y1,rfl⟩
 all_goals
  go_wp2_with fail
  refine (h2 _ (bb1.alloc bb1.size _)).mono ?_
  rintro e w2 ⟨⟨s2,z2,p2,n2,q2,d2,rfl,hd2⟩,hb2⟩
  have m2:=Below.cellv hb2 (Zac m1)
  have bb2:=(bb1.alloc bb1.size _).trans (hb2.mono (bb1.alloc bb1.size _).size)
  have hl2:=Zae m2
  rcases hd2 with rfl | ⟨t2,y2,rfl⟩
  all_goals
   go_wp2_with fail
   refine (h3 _ (bb2.alloc bb2.size _)).mono ?_
   rintro e w3 ⟨⟨s3,z3,p3,n3,q3,d3,rfl,hd3⟩,hb3⟩
   have bb3:=(bb2.alloc bb2.size _).trans (hb3.mono (bb2.alloc bb2.size _).size)
   rcases hd3 with rfl | ⟨t3,y3,rfl⟩
   all_goals
    cases x1
    ·go_wp2
     go_ret
     exact⟨rfl,bb3.alloc bb3.size _⟩
    ·cases x2
     ·go_wp2
      go_ret
      exact⟨rfl,bb3.alloc bb3.size _⟩
     ·go_wp2
      go_ret
      exact⟨rfl,bb3.alloc bb3.size _⟩
end Go.Proofs.YtliapghpeoaonaaGreatDoor
