/-
  checkFunction: the names of a function.
-/
import Derived.Test.YtifhgjpglicjbaaGreatDoorNamE
set_option maxHeartbeats 2000000
namespace Go.Proofs.YtifhgjpglicjbaaGreatDoor
open Go.Proofs.Tryz
open Go.RowKit Go.Maps
attribute [local go_sem ↓] Go.wp_at_zero Go.wp_at_succ
theorem nameCells_at:∀(l:List (ByteArray×Nat)) (j:Nat) (hj:j<l.length),(nameCells l)[j*2]?=some (.string l[j].1)∧(nameCells l)[j*2+1]?=some (.int .i64 ((l[j].2:Nat):Int))
 | [],j,hj=>by simp at hj
 | x::r,0,_=>⟨rfl,rfl⟩
 | x::r,j+1,hj=>by
  have:=nameCells_at r j (by simpa using hj)
  rw[show (j+1)*2=j*2+1+1 by omega,show j*2+1+1+1=(j*2+1)+1+1 by omega]
  simpa[nameCells] using this
def firsts (l:List (ByteArray×Nat)):List ByteArray:=l.map (·.1)
theorem checkFunction_any (nb:ByteArray)(fn:Fn)(ad:Option Addr)(cap:Nat)(ps:List (ByteArray×Nat))(tb:TypeId)(xb:Value)(B:Nat)(fs:List (List UInt8×Nat))(w:World)(D:Nat→Prop)(aN aA aW:Addr)(h1:nb.data.toList=fn.name)(hps:plainNames ps=fn.params)(hrow:RowAt w D 61 2 (.slice ad ps.length cap) ps.length (nameCells ps))(hbody:RepE w D fn.body (.iface tb xb))(hnb:nb.size≤2000)(hA:AheadAt w B fs)(hN:ErrsN w aN aA aW)(hpl:fn.params.length+szE fn.body≤100000):
  Calls prog 73 #[.agg #[.string nb,.int .i64 ((fn.at_:Nat):Int),.slice ad ps.length cap,.iface tb xb],.map (some B)] w fun r w'=>r=.returned (errN (nmFn fs fn) aN aA aW)∧Below w.heap.size w w':=by
 obtain⟨n,Dm,hown,hn,hD⟩:=hA
 have hA2:AheadAt w B fs:=⟨n,Dm,hown,hn,hD⟩
 obtain⟨d1,d2⟩:=hD nb.data.toList
 have hkey:keyOf prog 9 (.string nb)=some (.string nb.data.toList):=WideMaps.keyOf_string_mk underlying9 (by unfold maxLen;omega)
 have eW:=hN.eW
 have l1:5<w.heap.size:=cell_lt eW
 cases hL:(lookF fs fn.name).isSome with
 | true =>
  have d1':Maps.has Dm (.string nb.data.toList)=true:=by rw[d1,h1];exact hL
  have e:errN (nmFn fs fn) aN aA aW=wrongV fn.at_ aW:=by simp[nmFn,hL,errN]
  rw[e]
  generalize fn.at_=at0
  clear d1 d2 hL e hD hA2 hbody hrow hN h1 hps
  go_enter func73,ntmps73
  go_wp2_with (first
   |(at_lookup;refine wpList_lookup_own_ok_int _ rfl _ _ 179 rfl 9 3 .i64 law underlying179 underlying3 (zeroE _) B n Dm rfl (hown.alloc _) _ _ rfl hkey ?_;intro k' hk hwf;clear hwf hk)
   |(go_at_call 102;refine (wrongName_any nb at0 aW _).mono ?_;rintro e w' ⟨rfl,hb⟩))
  go_ret
  exact⟨rfl,(below1 w _).trans (hb.mono (by simp))⟩
 | false =>
  have d1':Maps.has Dm (.string nb.data.toList)=false:=by rw[d1,h1];exact hL
  have HQ:Hid (nmFn fs fn=match dupP [] fn.params with | some p=>some (5,p) | none=>nmE fs (fn.params.map (·.1)) fn.body):=by
   show _=_
   simp only[nmFn,hL]
   cases dupP [] fn.params<;>rfl
  have HPS:Hid (plainNames ps=fn.params):=hps
  clear d1 d2 hL hD h1 hps
  generalize hR:errN (nmFn fs fn) aN aA aW=R
  have HR:Hid (errN (nmFn fs fn) aN aA aW=R):=hR
  clear hR
  go_enter func73,ntmps73
  go_wp2_with (at_lookup;refine wpList_lookup_own_ok_int _ rfl _ _ 179 rfl 9 3 .i64 law underlying179 underlying3 (zeroE _) B n Dm rfl (hown.alloc _) _ _ rfl hkey ?_;intro k' hk hwf;clear hwf hk)
  have bX:Below w.heap.size w (w.alloc (Obj.cells #[.string nb,.int .i64 ((fn.at_:Nat):Int),.slice ad ps.length cap,.iface tb xb] 66)):=below1 w _
  have n3:=(new_cells4 w (.string nb) (.int .i64 ((fn.at_:Nat):Int)) (.slice ad ps.length cap) (.iface tb xb) 66).2.2.2.1
  generalize w.alloc (Obj.cells #[.string nb,.int .i64 ((fn.at_:Nat):Int),.slice ad ps.length cap,.iface tb xb] 66)=X at *
  have hlenp:ps.length≤100000:=by
   have:fn.params.length=ps.length:=by rw[←HPS.out];simp[plainNames]
   omega
  have hXs:=bX.size
  clear hown hkey d1'
  go_loopg [7,26] ps.length (fun m v i wr=>∃(j:Nat) (bs:List ByteArray),m=ps.length-j∧i=.int .i64 j∧j≤ps.length∧bs=firsts (ps.take j)∧wr.ownsRow X.heap.size 9 1 v bs.length (bs.map Value.string)∧Below X.heap.size X wr∧dupP [] (plainNames ps)=dupP (namesOf bs) ((plainNames ps).drop j))
  case atStart=>exact⟨0,[],by omega,rfl,by omega,rfl,World.ownsRow_nil _ _ _ _,Below.refl _ _,rfl⟩
  case round =>
   obtain⟨j,bs,rfl,rfl,hj,hbs,hownv,hbw,hdup⟩:=hrel
   have HB:Hid (bs=firsts (ps.take j)):=hbs
   have HDU:Aside (dupP [] (plainNames ps)=dupP (namesOf bs) ((plainNames ps).drop j)):=hdup
   have hbl:bs.length≤100000:=by rw[hbs];simp[firsts];omega
   obtain⟨vad,vcap,rfl⟩:=owns_slice hownv
   clear hbs hdup
   have hwz:=hbw.size
   have bw:Below w.heap.size w wr:=bX.trans (hbw.mono bX.size)
   by_cases hjl:j<ps.length
   ·obtain⟨g,cap',hpv,hg,hc1,hc2,hcell⟩:=hrow.cell (by omega)
    cases hpv
    obtain⟨e0,e1⟩:=nameCells_at ps j hjl
    have c0:wr.cell? ⟨g,j*2,none⟩=some (.string ps[j].1):=Below.cellv bw (by rw[hcell (j*2) (by omega)];exact e0)
    have c1:wr.cell? ⟨g,j*2+1,none⟩=some (.int .i64 ((ps[j].2:Nat):Int)):=Below.cellv bw (by rw[hcell (j*2+1) (by omega)];exact e1)
    unfold maxLen at hc2
    have hdrop:(plainNames ps).drop j=(ps[j].1.data.toList,ps[j].2)::(plainNames ps).drop (j+1):=by
     rw[List.drop_eq_getElem_cons (by simpa[plainNames] using hjl)]
     simp[plainNames]
    have hD2:dupP (namesOf bs) ((plainNames ps).drop j)=if (namesOf bs).contains ps[j].1.data.toList then some ps[j].2 else dupP (namesOf bs++[ps[j].1.data.toList]) ((plainNames ps).drop (j+1)):=by rw[hdrop,dupP]
    have HDU2:Aside (dupP [] (plainNames ps)=if (namesOf bs).contains ps[j].1.data.toList then some ps[j].2 else dupP (namesOf bs++[ps[j].1.data.toList]) ((plainNames ps).drop (j+1))):=by show _=_;rw[HDU.out,hD2]
    have htake:firsts (ps.take (j+1))=firsts (ps.take j)++[ps[j].1]:=by
     unfold firsts;rw[List.take_succ_eq_append_getElem hjl,List.map_append];rfl
    have HT:Hid (firsts (ps.take (j+1))=bs++[ps[j].1]):=by show _=_;rw[htake,←HB.out]
    have cc:=fun w h=>contains_any (.slice vad bs.length vcap) bs ps[j].1 w (X.heap.size≤·) h hbl
    rw[contains_names] at cc
    have hgl:=cell_lt c0
    have eW2:wr.cell? ⟨5,0,none⟩=some (errVal aW):=Below.cellv bw eW
    have l2:5<wr.heap.size:=cell_lt eW2
    generalize hpb:ps[j].1=pb at *
    generalize hpn:ps[j].2=pn at *
    clear HDU hD2 hdrop htake hcell hrow e0 e1 hbody hA2 hN eW hpb hpn
    cases hh:(namesOf bs).contains pb.data.toList with
    | true =>
     rw[hh] at cc
     have HP:Hid (R=wrongV pn aW):=by
      show _=_
      rw[←HR.out,HQ.out,←HPS.out,HDU2.out,hh]
      rfl
     clear HDU2 HT hh
     go_wp2_with (first
      |(go_at_call 103;refine (cc _ ?_).mono ?_;(exact StrsAt.below (RowAt.of_owns hownv) (below1 wr _));rintro e w1 ⟨rfl,rfl⟩)
      |(go_at_call 102;refine (wrongName_any pb pn aW _).mono ?_;rintro e w2 ⟨rfl,hb2⟩))
     go_ret
     exact⟨by rw[HP.out];rfl,(bw.trans ((below1 wr _).mono bw.size)).trans (hb2.mono (by simp;omega))⟩
    | false =>
     rw[hh] at cc
     have HP:Aside (dupP [] (plainNames ps)=dupP (namesOf bs++[pb.data.toList]) ((plainNames ps).drop (j+1))):=by show _=_;rw[HDU2.out,hh];rfl
     clear HDU2 hh
     go_wp2_with (first
      |(go_at_call 103;refine (cc _ ?_).mono ?_;(exact StrsAt.below (RowAt.of_owns hownv) (below1 wr _));rintro e w1 ⟨rfl,rfl⟩)
      |(at_builtin;obtain⟨i0,hi,hz0,hz1,hz2⟩:=info_parts Tryz.infoString;refine wpList_append_own _ rfl _ _ 26 rfl X.heap.size 9 i0 (.string ⟨#[]⟩) 1 16 underlying26 hi hz0 hz1 hz2 rfl (by decide) _ _ _ rfl ((hownv.alloc _).alloc _) ⟨wr.heap.size+1,0,none⟩ 1 1 [.string pb] rfl rfl (one_new2 wr _ _ _) (fun x hx=>by simp at hx;subst hx;rfl) (by unfold maxLen;omega) (by omega) (by simp;omega) ?_;intro v' w6 hown' hgrow hnil;clear hi hz0 hz1 hz2))
     go_roundg (ps.length-(j+1))
     case measure=>omega
     case rel =>
      refine⟨j+1,bs++[pb],rfl,by go_num,by omega,HT.out.symm,?_,?_,?_⟩
      ·rw[List.length_append,List.map_append]
       exact hown'
      ·exact Below.grown ((hbw.alloc hwz _).alloc (by simp;omega) _) hgrow (by simp;omega) (fun k hk=>(hownv.lt k hk).1)
      ·rw[HP.out]
       simp[namesOf]
   ·have hjj:j=ps.length:=by omega
    subst hjj
    have hall:namesOf bs=fn.params.map (·.1):=by
     rw[←HPS.out,HB.out,List.take_length]
     simp[namesOf,firsts,plainNames]
    have hnod:dupP [] (plainNames ps)=none:=by
     rw[HDU.out,List.drop_eq_nil_of_le (by simp[plainNames]),dupP]
    have HP:Hid (R=errN (nmE fs (namesOf bs) fn.body) aN aA aW):=by
     show _=_
     rw[←HR.out,HQ.out,←HPS.out,hnod,HPS.out,hall]
    have ce:=exprDo_all (szE fn.body) fn.body (.iface tb xb) (.slice vad bs.length vcap) bs B fs wr D (X.heap.size≤·) aN aA aW (Nat.le_refl _) (by
     have:fn.params.length=bs.length:=by rw[HB.out,←HPS.out];simp[plainNames,firsts]
     omega) (hbody.below bw) (RowAt.of_owns hownv) (hA2.below bw) (hN.below bw)
    have m3:wr.cell? ⟨w.heap.size,3,none⟩=some (.iface tb xb):=Below.cellv hbw n3
    clear hall hnod HDU hbody hA2 hN hrow
    go_wp2_with (go_at_call 104;refine ce.mono ?_;rintro e w2 ⟨rfl,hb2⟩)
    go_ret
    exact⟨by rw[HP.out];rfl,bw.trans (hb2.mono bw.size)⟩
theorem lookF_snoc (fs:List (List UInt8×Nat))(x:List UInt8×Nat)(l:List UInt8):lookF (fs++[x]) l=match lookF fs l with | some k=>some k | none=>if x.1==l then some x.2 else none:=by
 unfold lookF
 rw[List.find?_append]
 cases hf:fs.find? fun y=>y.1==l with
 | some y=>simp
 | none =>
  simp only[Option.none_or,Option.map_none]
  cases hx:x.1==l<;>simp[List.find?,hx]
theorem MapIs.put {D:DataW Unit}{fs:List (List UInt8×Nat)}(h:MapIs D fs)(hD:IsMap D)(n:List UInt8)(k:Nat)(hn:lookF fs n=none):MapIs (D.put (.string n) (.lit (.int .i64 ((k:Nat):Int)))) (fs++[(n,k)]):=by
 intro l
 rw[lookF_snoc]
 by_cases hl:n=l
 ·subst hl
  rw[has_put_same hD (show WideAt.IsKeyLit (.string n) from trivial),atKey_put_same hD (show WideAt.IsKeyLit (.string n) from trivial),hn]
  simp
 ·have hne:(Lit.string l)≠.string n:=by intro e;injection e with e;exact hl e.symm
  have hb:(n==l)=false:=by simpa using hl
  rw[has_put_other hne,atKey_put_other hne,(h l).1,(h l).2]
  cases lookF fs l<;>simp[hb]
theorem mapIs_nil:MapIs (.map []) []:=fun _=>⟨rfl,rfl⟩
theorem nmFn_none {fs:List (List UInt8×Nat)}{fn:Fn}(h:nmFn fs fn=none):lookF fs fn.name=none:=by
 unfold nmFn at h
 split at h
 ·cases h
 ·rename_i g;simpa using g
theorem fnCells_at:∀(l:List FnV) (j:Nat) (hj:j<l.length),(fnCells l)[j*4]?=some (.string l[j].nb)∧(fnCells l)[j*4+1]?=some (.int .i64 ((l[j].at_:Nat):Int))∧(fnCells l)[j*4+2]?=some l[j].pv∧(fnCells l)[j*4+3]?=some l[j].bv
 | [],j,hj=>by simp at hj
 | x::r,0,_=>⟨rfl,rfl,rfl,rfl⟩
 | x::r,j+1,hj=>by
  have:=fnCells_at r j (by simpa using hj)
  rw[show (j+1)*4=j*4+1+1+1+1 by omega,show j*4+1+1+1+1+1=(j*4+1)+1+1+1+1 by omega,show j*4+1+1+1+1+2=(j*4+2)+1+1+1+1 by omega,show j*4+1+1+1+1+3=(j*4+3)+1+1+1+1 by omega]
  simpa[fnCells] using this
theorem FnsRep.at {w:World}{D:Nat→Prop}:∀{xs:List FnV} {fns:List Fn},FnsRep w D xs fns→∀j (hj:j<xs.length) (hj2:j<fns.length),FnRep w D xs[j] fns[j]
 | [],fns,h,j,hj,hj2=>by simp at hj
 | x::xs,fns,h,j,hj,hj2=>by
  obtain⟨fn,r,rfl,h2,h3⟩:=h
  cases j with
  | zero=>exact h2
  | succ j=>exact FnsRep.at h3 j (by simpa using hj) (by simpa using hj2)
def Fn.small (fn:Fn):Prop:=fn.name.length≤2000∧fn.params.length+szE fn.body≤100000
theorem checkNames_any (pv:Value)(xs:List FnV)(fns:List Fn)(w:World)(D:Nat→Prop)(aN aA aW:Addr)(hrow:RowAt w D 66 4 pv xs.length (fnCells xs))(hF:FnsRep w D xs fns)(hN:ErrsN w aN aA aW)(hsm:∀fn∈fns,fn.small)(hl:xs.length≤100000):
  Calls prog 49 #[pv] w fun r w'=>r=.returned (errN (nmAll [] fns) aN aA aW)∧Below w.heap.size w w':=by
 have hlen:=hF.length
 have hsl:∃ad cap,pv=.slice ad xs.length cap:=by
  rcases hrow.2 with ⟨g1,g2⟩ | ⟨g,cap,cur,hv,_⟩
  ·exact⟨_,_,by rw[g1,g2]⟩
  ·exact⟨_,_,hv⟩
 obtain⟨ad,cap,rfl⟩:=hsl
 generalize hR:errN (nmAll [] fns) aN aA aW=R
 have HR:Hid (errN (nmAll [] fns) aN aA aW=R):=hR
 clear hR
 have hmm:=@run_makeMap prog
 go_enter func49,ntmps49
 go_wp2
 clear hmm
 go_loopg [10] xs.length (fun m i wr=>∃(j:Nat),m=xs.length-j∧i=.int .i64 j∧j≤xs.length∧Below w.heap.size w wr∧AheadAt wr w.heap.size ((fns.take j).map sigOf)∧nmAll [] fns=nmAll ((fns.take j).map sigOf) (fns.drop j))
 case atStart=>exact⟨0,by omega,rfl,by omega,below1 w _,⟨0,.map [],World.ownsMap_made _ _ _ _,by simp,by simpa using mapIs_nil⟩,by simp⟩
 case round =>
  obtain⟨j,rfl,rfl,hj,bw,hA,hnm⟩:=hrel
  have HNM:Aside (nmAll [] fns=nmAll ((fns.take j).map sigOf) (fns.drop j)):=hnm
  clear hnm
  have hwz:=bw.size
  by_cases hjl:j<xs.length
  ·obtain⟨g,cap',hpv,hg,hc1,hc2,hcell⟩:=hrow.cell (by omega)
   cases hpv
   obtain⟨e0,e1,e2,e3⟩:=fnCells_at xs j hjl
   have hjf:j<fns.length:=by omega
   obtain⟨f1,f2,⟨ps,hps,hpr⟩,hbody⟩:=hF.at j hjl hjf
   obtain⟨sm1,sm2⟩:=hsm fns[j] (List.getElem_mem hjf)
   obtain⟨tb,xb,hbv⟩:=hbody.iface
   have hpsl:∃pad pcap,xs[j].pv=.slice pad ps.length pcap:=by
    rcases hpr.2 with ⟨g1,g2⟩ | ⟨_,_,_,hv,_⟩
    ·exact⟨_,_,by rw[g1,g2]⟩
    ·exact⟨_,_,hv⟩
   obtain⟨pad,pcap,hpv⟩:=hpsl
   have c0:wr.cell? ⟨g,j*4,none⟩=some (.string xs[j].nb):=Below.cellv bw (by rw[hcell (j*4) (by omega)];exact e0)
   have c1:wr.cell? ⟨g,j*4+1,none⟩=some (.int .i64 ((fns[j].at_:Nat):Int)):=Below.cellv bw (by rw[hcell (j*4+1) (by omega),e1,f2])
   have c2:wr.cell? ⟨g,j*4+2,none⟩=some (.slice pad ps.length pcap):=Below.cellv bw (by rw[hcell (j*4+2) (by omega),e2,hpv])
   have c3:wr.cell? ⟨g,j*4+3,none⟩=some (.iface tb xb):=Below.cellv bw (by rw[hcell (j*4+3) (by omega),e3,hbv])
   have hgl:=cell_lt c0
   unfold maxLen at hc2
   have hnb:xs[j].nb.size≤2000:=by rw[←f1,len_data] at sm1;exact sm1
   rw[hpv] at hpr
   rw[hbv] at hbody
   have bX:Below w.heap.size w (wr.alloc (Obj.cells #[.string xs[j].nb,.int .i64 ((fns[j].at_:Nat):Int),.slice pad ps.length pcap,.iface tb xb] 66)):=bw.trans ((below1 wr _).mono hwz)
   have n4:=new_cells4 wr (.string xs[j].nb) (.int .i64 ((fns[j].at_:Nat):Int)) (.slice pad ps.length pcap) (.iface tb xb) 66
   have cf:=checkFunction_any xs[j].nb fns[j] pad pcap ps tb xb w.heap.size ((fns.take j).map sigOf) _ D aN aA aW f1 hps (row_below hpr bX) (hbody.below bX) hnb (hA.alloc _) (hN.below bX) sm2
   have hA2:=hA.alloc (Obj.cells #[.string xs[j].nb,.int .i64 ((fns[j].at_:Nat):Int),.slice pad ps.length pcap,.iface tb xb] 66)
   have hdrop:fns.drop j=fns[j]::fns.drop (j+1):=List.drop_eq_getElem_cons hjf
   have hpsl2:ps.length=fns[j].params.length:=by rw[←hps];simp[plainNames]
   have htake:(fns.take (j+1)).map sigOf=(fns.take j).map sigOf++[sigOf fns[j]]:=by rw[List.take_succ_eq_append_getElem hjf,List.map_append];rfl
   have hn100:ps.length≤100000:=by omega
   have hfl:((fns.take j).map sigOf).length≤100000:=by simp;omega
   have HNM2:Aside (nmAll [] fns=match nmFn ((fns.take j).map sigOf) fns[j] with | some e=>some e | none=>nmAll ((fns.take (j+1)).map sigOf) (fns.drop (j+1))):=by
    show _=_
    rw[HNM.out,hdrop,nmAll,htake]
    cases nmFn ((fns.take j).map sigOf) fns[j]<;>rfl
   have HT:Hid ((fns.take (j+1)).map sigOf=(fns.take j).map sigOf++[sigOf fns[j]]):=htake
   have HS:Hid (sigOf fns[j]=(xs[j].nb.data.toList,ps.length)):=by show _=_;rw[f1,hpsl2];rfl
   have HF1:Hid (xs[j].nb.data.toList=fns[j].name):=f1
   have HLN:Hid (xs.length=fns.length):=hlen
   clear hlen
   clear HNM hdrop htake hpsl2 hps f1 f2 hF hsm hrow hcell e0 e1 e2 e3 hpv hbv hpr hbody sm1 sm2 hN hA
   generalize hfs:(fns.take j).map sigOf=fs at *
   generalize hfn:fns[j]=fn at *
   generalize hnbb:xs[j].nb=nb at *
   clear hfs hfn hnbb
   cases hq:nmFn fs fn with
   | some x =>
    rw[hq] at cf
    obtain⟨c,p⟩:=x
    obtain⟨a,ha⟩:∃a,errN (some (c,p)) aN aA aW=wrongV p a:=⟨_,rfl⟩
    rw[ha] at cf
    have HP:Hid (R=wrongV p a):=by show _=_;rw[←HR.out,HNM2.out,hq];exact ha
    clear HNM2 hq ha HT HS HF1 n4 hA2
    go_wp2_with (go_at_call 73;refine cf.mono ?_;rintro e w2 ⟨rfl,hb2⟩)
    go_ret
    exact⟨by rw[HP.out];rfl,bX.trans (hb2.mono bX.size)⟩
   | none =>
    rw[hq] at cf
    have HP:Aside (nmAll [] fns=nmAll ((fns.take (j+1)).map sigOf) (fns.drop (j+1))):=by show _=_;rw[HNM2.out,hq]
    have HLK:Hid (lookF fs fn.name=none):=nmFn_none hq
    have hcf:Calls prog 73 #[.agg #[.string nb,.int .i64 ((fn.at_:Nat):Int),.slice pad ps.length pcap,.iface tb xb],.map (some w.heap.size)] (wr.alloc (Obj.cells #[.string nb,.int .i64 ((fn.at_:Nat):Int),.slice pad ps.length pcap,.iface tb xb] 66)) fun r w'=>r=.returned .nilIface∧Below (wr.alloc (Obj.cells #[.string nb,.int .i64 ((fn.at_:Nat):Int),.slice pad ps.length pcap,.iface tb xb] 66)).heap.size (wr.alloc (Obj.cells #[.string nb,.int .i64 ((fn.at_:Nat):Int),.slice pad ps.length pcap,.iface tb xb] 66)) w':=cf
    have hkey:keyOf prog 9 (.string nb)=some (.string nb.data.toList):=WideMaps.keyOf_string_mk underlying9 (by unfold maxLen;omega)
    obtain⟨n,Dm,hown,hn,hD⟩:=hA2
    have hval:plainElem (H:=Unit) prog 3 (.int .i64 ((ps.length:Nat):Int))=some (.lit (.int .i64 ((ps.length:Nat):Int)),[]):=plainElem_int underlying3 (by
     simp only[Lit.wf,IntKind.min,IntKind.max,IntKind.signed,IntKind.bits,Bool.and_eq_true,decide_eq_true_eq,if_true];omega)
    clear HNM2 hq cf
    go_wp2_with (first
     |(go_at_call 73;refine hcf.mono ?_;rintro e w2 ⟨rfl,hb2⟩;obtain⟨es,clock,g1,g2⟩:=hown;have hown2:w2.ownsMap prog 9 (plainElem prog 3) w.heap.size n Dm:=⟨es,clock,by rw[hb2.block _ (block_lt g1)];exact g1,g2⟩;have m0:=Below.cellv hb2 n4.1;have m2:=Below.cellv hb2 n4.2.2.1;clear hcf n4)
     |(at_mapUpdate;refine wpList_mapUpdate_own _ rfl _ _ _ 179 rfl 9 3 law underlying179 _ w.heap.size n Dm rfl hown2 (by unfold maxLen;omega) _ _ (.string nb.data.toList) rfl rfl hkey _ [] hval ?_;intro w3 hown3 hgrow3))
    go_roundg (xs.length-(j+1))
    case measure=>omega
    case rel =>
     refine⟨j+1,rfl,by go_num,by omega,?_,⟨n+1,_,hown3,?_,?_⟩,HP.out⟩
     ·exact Below.grown (bX.trans (hb2.mono bX.size)) hgrow3 (Nat.le_trans bX.size hb2.size) (fun k hk=>by injection hk with hk;omega)
     ·rw[HT.out];simp;omega
     ·rw[HT.out,HS.out]
      exact hD.put hown2.isMap _ _ (by rw[HF1.out];exact HLK.out)
  ·have hjj:j=xs.length:=by omega
   subst hjj
   have HP:Hid (R=.nilIface):=by
    show _=_
    rw[←HR.out,HNM.out,hlen,List.drop_length]
    rfl
   clear HNM
   go_wp2
   go_ret
   exact⟨by rw[HP.out];rfl,bw⟩
def sigIs (wd:ByteArray)(k:Nat)(nb:ByteArray)(n:Nat):Bool:=nb.toList==wd.toList&&n==k
theorem hasF1_any (wd nb:ByteArray)(k n at_:Nat)(ad:Option Addr)(cap:Nat)(bv:Value)(Bw Bk:Nat)(w:World)(_hn:n≤100000)(hk:k≤9223372036854775807)(cw:w.cell? ⟨Bw,0,none⟩=some (.string wd))(ck:w.cell? ⟨Bk,0,none⟩=some (.int .i64 ((k:Nat):Int))):
  Calls prog 52 #[.agg #[.string nb,.int .i64 ((at_:Nat):Int),.slice ad n cap,bv],.pointer (some ⟨Bw,0,none⟩),.pointer (some ⟨Bk,0,none⟩)] w fun r w'=>r=.returned (.bool (sigIs wd k nb n))∧Below w.heap.size w w':=by
 have l1:=cell_lt cw
 have l2:=cell_lt ck
 cases h1:(nb.toList==wd.toList)
 ·have e:sigIs wd k nb n=false:=by simp[sigIs,h1]
  rw[e]
  go_enter func52,ntmps52
  go_wp2
  go_ret
  exact⟨rfl,below1 w _⟩
 ·by_cases h2:n=k
  ·have e:sigIs wd k nb n=true:=by simp[sigIs,h1,h2]
   rw[e]
   subst h2
   go_enter func52,ntmps52
   go_wp2
   go_ret
   exact⟨rfl,below1 w _⟩
  ·have e:sigIs wd k nb n=false:=by simp[sigIs,h2]
   rw[e]
   go_enter func52,ntmps52
   go_wp2
   go_ret
   exact⟨ret_bool (by simp;omega),below1 w _⟩
def hasSig (wd:ByteArray)(k:Nat)(l:List (ByteArray×Nat)):Bool:=l.any fun x=>sigIs wd k x.1 x.2
def findSig (wd:ByteArray)(k:Nat)(l:List (ByteArray×Nat)):Option Nat:=l.findIdx? fun x=>sigIs wd k x.1 x.2
def idxV:Option Nat→Int
 | none=>-1
 | some j=>j
theorem findSig_none {wd:ByteArray}{k:Nat}{l:List (ByteArray×Nat)}(h:findSig wd k l=none):hasSig wd k l=false:=by
 rw[findSig,List.findIdx?_eq_none_iff] at h
 rw[hasSig,List.any_eq_false]
 intro x hx
 rw[h x hx]
 decide
theorem findSig_some {wd:ByteArray}{k j:Nat}{l:List (ByteArray×Nat)}(h:findSig wd k l=some j):hasSig wd k l=true∧j<l.length:=by
 rw[findSig,List.findIdx?_eq_some_iff_getElem] at h
 obtain⟨h1,h2,_⟩:=h
 exact⟨by rw[hasSig,List.any_eq_true];exact⟨_,List.getElem_mem h1,h2⟩,h1⟩
def FnLen (x:FnV)(n:Nat):Prop:=n≤100000∧∃ad cap,x.pv=.slice ad n cap
def FnLens:List FnV→List Nat→Prop
 | [],ns=>ns=[]
 | x::xs,ns=>∃n r,ns=n::r∧FnLen x n∧FnLens xs r
theorem FnLens.length:∀{xs:List FnV} {ns:List Nat},FnLens xs ns→xs.length=ns.length
 | [],ns,h=>by rw[show ns=[] from h];rfl
 | x::xs,ns,h=>by obtain⟨n,r,rfl,_,h3⟩:=h;simp[FnLens.length h3]
theorem FnLens.at:∀{xs:List FnV} {ns:List Nat},FnLens xs ns→∀j (hj:j<xs.length) (hj2:j<ns.length),FnLen xs[j] ns[j]
 | [],ns,h,j,hj,hj2=>by simp at hj
 | x::xs,ns,h,j,hj,hj2=>by
  obtain⟨n,r,rfl,h2,h3⟩:=h
  cases j with
  | zero=>exact h2
  | succ j=>exact FnLens.at h3 j (by simpa using hj) (by simpa using hj2)
def sigsV (xs:List FnV)(ns:List Nat):List (ByteArray×Nat):=(xs.map (·.nb)).zip ns
theorem indexFunc_any (pv:Value)(xs:List FnV)(ns:List Nat)(wd:ByteArray)(k Bw Bk:Nat)(w:World)(D:Nat→Prop)(hrow:RowAt w D 66 4 pv xs.length (fnCells xs))(hns:FnLens xs ns)(hl:xs.length≤100000)(hk:k≤9223372036854775807)(cw:w.cell? ⟨Bw,0,none⟩=some (.string wd))(ck:w.cell? ⟨Bk,0,none⟩=some (.int .i64 ((k:Nat):Int))):
  Calls prog 51 #[pv,.func (.func 52) #[] #[.pointer (some ⟨Bw,0,none⟩),.pointer (some ⟨Bk,0,none⟩)]] w fun e w'=>e=.returned (.int .i64 (idxV (findSig wd k (sigsV xs ns))))∧Below w.heap.size w w':=by
 have hlen:=hns.length
 have hsl:∃ad cap,pv=.slice ad xs.length cap:=by
  rcases hrow.2 with ⟨g1,g2⟩ | ⟨g,cap,cur,hv,_⟩
  ·exact⟨_,_,by rw[g1,g2]⟩
  ·exact⟨_,_,hv⟩
 obtain⟨ad,cap,rfl⟩:=hsl
 have hzl:(sigsV xs ns).length=xs.length:=by simp[sigsV,hlen]
 have HZ:Hid ((sigsV xs ns).length=xs.length):=hzl
 have hzat:∀j (hj:j<xs.length) (hj2:j<ns.length) (hj3:j<(sigsV xs ns).length),(sigsV xs ns)[j]=(xs[j].nb,ns[j]):=fun j hj hj2 hj3=>by simp[sigsV]
 have HLN:Hid (xs.length=ns.length):=hlen
 clear hlen hzl
 go_enter func51,ntmps51
 go_wp2
 go_loopg [8] xs.length (fun m i wr=>∃j:Nat,m=xs.length-j∧i=.int .i64 j∧j≤xs.length∧Below w.heap.size w wr∧findSig wd k (sigsV xs ns)=(findSig wd k ((sigsV xs ns).drop j)).map (·+j))
 case atStart=>exact⟨0,by omega,rfl,by omega,Below.refl _ _,by simp⟩
 case round =>
  obtain⟨j,rfl,rfl,hj,bw,heq⟩:=hrel
  have HQ:Aside (findSig wd k (sigsV xs ns)=(findSig wd k ((sigsV xs ns).drop j)).map (·+j)):=heq
  clear heq
  have hwz:=bw.size
  have cw2:wr.cell? ⟨Bw,0,none⟩=some (.string wd):=Below.cellv bw cw
  have ck2:wr.cell? ⟨Bk,0,none⟩=some (.int .i64 ((k:Nat):Int)):=Below.cellv bw ck
  by_cases hjl:j<xs.length
  ·obtain⟨g,cap',hpv,hg,hc1,hc2,hcell⟩:=hrow.cell (by omega)
   cases hpv
   obtain⟨e0,e1,e2,e3⟩:=fnCells_at xs j hjl
   have hjn:j<ns.length:=by have h2:xs.length=ns.length:=HLN.out;omega
   obtain⟨hn1,pad,pcap,hpv⟩:=hns.at j hjl hjn
   have c0:wr.cell? ⟨g,j*4,none⟩=some (.string xs[j].nb):=Below.cellv bw (by rw[hcell (j*4) (by omega)];exact e0)
   have c1:wr.cell? ⟨g,j*4+1,none⟩=some (.int .i64 ((xs[j].at_:Nat):Int)):=Below.cellv bw (by rw[hcell (j*4+1) (by omega)];exact e1)
   have c2:wr.cell? ⟨g,j*4+2,none⟩=some (.slice pad ns[j] pcap):=Below.cellv bw (by rw[hcell (j*4+2) (by omega),e2,hpv])
   have c3:wr.cell? ⟨g,j*4+3,none⟩=some xs[j].bv:=Below.cellv bw (by rw[hcell (j*4+3) (by omega),e3])
   have hgl:=cell_lt c0
   unfold maxLen at hc2
   have hj3:j<(sigsV xs ns).length:=by have h2:(sigsV xs ns).length=xs.length:=HZ.out;omega
   have HQ2:Aside (findSig wd k (sigsV xs ns)=if sigIs wd k xs[j].nb ns[j] then some j else (findSig wd k ((sigsV xs ns).drop (j+1))).map (·+(j+1))):=by
    show _=_
    rw[HQ.out,List.drop_eq_getElem_cons hj3,hzat j hjl hjn hj3]
    simp only[findSig,List.findIdx?_cons]
    split
    ·simp
    ·rw[Option.map_map]
     congr 1
     funext x
     simp only[Function.comp]
     omega
   have cf:=hasF1_any wd xs[j].nb k ns[j] xs[j].at_ pad pcap xs[j].bv Bw Bk wr hn1 hk cw2 ck2
   clear HQ hzat hrow hns hcell e0 e1 e2 e3 hpv cw ck
   generalize xs[j].nb=nb at *
   generalize xs[j].at_=at_ at *
   generalize xs[j].bv=bv at *
   generalize ns[j]=n at *
   cases hs:sigIs wd k nb n
   ·rw[hs] at cf
    have HP:Aside (findSig wd k (sigsV xs ns)=(findSig wd k ((sigsV xs ns).drop (j+1))).map (·+(j+1))):=by show _=_;rw[HQ2.out,hs];rfl
    clear HQ2 hs
    go_wp2_with (go_at_call 52;refine cf.mono ?_;rintro e w2 ⟨rfl,hb2⟩)
    go_roundg (xs.length-(j+1))
    case measure=>omega
    case rel=>exact⟨j+1,rfl,by go_num,by omega,bw.trans (hb2.mono hwz),HP.out⟩
   ·rw[hs] at cf
    have HP:Hid (findSig wd k (sigsV xs ns)=some j):=by show _=_;rw[HQ2.out,hs];rfl
    clear HQ2 hs
    go_wp2_with (go_at_call 52;refine cf.mono ?_;rintro e w2 ⟨rfl,hb2⟩)
    go_ret
    exact⟨by rw[HP.out];rfl,bw.trans (hb2.mono hwz)⟩
  ·have hjj:j=xs.length:=by omega
   subst hjj
   have HP:Hid (findSig wd k (sigsV xs ns)=none):=by
    show _=_
    rw[HQ.out,List.drop_eq_nil_of_le (by have h2:(sigsV xs ns).length=xs.length:=HZ.out;omega)]
    rfl
   clear HQ hzat
   go_wp2
   go_ret
   exact⟨by rw[HP.out];rfl,bw⟩
def fnV (x:FnV):Value:=.agg #[.string x.nb,.int .i64 ((x.at_:Nat):Int),x.pv,x.bv]
def zeroFnV:Value:=.agg #[.string ⟨#[]⟩,.int .i64 0,.slice none 0 0,.nilIface]
def findV (xs:List FnV):Option Nat→Value
 | none=>.tuple #[zeroFnV,.bool false]
 | some j=>match xs[j]? with
  | none=>.tuple #[zeroFnV,.bool false]
  | some x=>.tuple #[fnV x,.bool true]
structure FindB (X:World)(b:Nat)(pv:Value)(wd:ByteArray)(k:Nat):Prop where
 a0:X.cell? ⟨b,0,none⟩=some pv
 a1:X.cell? ⟨b+1,0,none⟩=some (.string wd)
 a2:X.cell? ⟨b+2,0,none⟩=some (.int .i64 ((k:Nat):Int))
 a3:X.cell? ⟨b+3,0,none⟩=some (.string ⟨#[]⟩)
 a4:X.cell? ⟨b+3,1,none⟩=some (.int .i64 0)
 a5:X.cell? ⟨b+3,2,none⟩=some (.slice none 0 0)
 a6:X.cell? ⟨b+3,3,none⟩=some .nilIface
 f3:∀i,X.frozen? ⟨b+3,i,none⟩=false
theorem FindB.below {X Y:World}{b:Nat}{pv:Value}{wd:ByteArray}{k:Nat}(h:FindB X b pv wd k)(hb:Below X.heap.size X Y):FindB Y b pv wd k:=by
 have hl:=cell_lt h.a3
 exact⟨Below.cellv hb h.a0,Below.cellv hb h.a1,Below.cellv hb h.a2,Below.cellv hb h.a3,Below.cellv hb h.a4,Below.cellv hb h.a5,Below.cellv hb h.a6,fun i=>by rw[hb.frozen (p:=⟨b+3,i,none⟩) hl];exact h.f3 i⟩
theorem FindB.new (w:World)(pv:Value)(wd:ByteArray)(k:Nat)(t0 t1 t2 t3:TypeId):FindB ((((w.alloc (.cells #[pv] t0)).alloc (.cells #[.string wd] t1)).alloc (.cells #[.int .i64 ((k:Nat):Int)] t2)).alloc (.cells #[.string ⟨#[]⟩,.int .i64 0,.slice none 0 0,.nilIface] t3)) w.heap.size pv wd k:=by
 have h0:(w.alloc (Obj.cells #[pv] t0)).heap[w.heap.size]?=some (.cells #[pv] t0):=heap_alloc_new _ _
 have h1:=heap_alloc_new (w.alloc (Obj.cells #[pv] t0)) (.cells #[.string wd] t1)
 have h2:=heap_alloc_new ((w.alloc (Obj.cells #[pv] t0)).alloc (.cells #[.string wd] t1)) (.cells #[.int .i64 ((k:Nat):Int)] t2)
 have h3:=heap_alloc_new (((w.alloc (Obj.cells #[pv] t0)).alloc (.cells #[.string wd] t1)).alloc (.cells #[.int .i64 ((k:Nat):Int)] t2)) (.cells #[.string ⟨#[]⟩,.int .i64 0,.slice none 0 0,.nilIface] t3)
 simp only[World.size_alloc] at h1 h2 h3
 refine⟨alloc_cell (alloc_cell (alloc_cell ?_)),alloc_cell (alloc_cell ?_),alloc_cell ?_,?_,?_,?_,?_,?_⟩
 ·unfold World.cell?;rw[h0];rfl
 ·unfold World.cell?;rw[h1];rfl
 ·unfold World.cell?;rw[h2];rfl
 ·unfold World.cell?;rw[h3];rfl
 ·unfold World.cell?;rw[h3];rfl
 ·unfold World.cell?;rw[h3];rfl
 ·unfold World.cell?;rw[h3];rfl
 ·intro i;unfold World.frozen?;rw[h3];simp
theorem find_fn (pv:Value)(xs:List FnV)(ns:List Nat)(wd:ByteArray)(k:Nat)(w:World)(D:Nat→Prop)(hbv:∀x∈xs,∃t y,x.bv=Value.iface t y)(hrow:RowAt w D 66 4 pv xs.length (fnCells xs))(hns:FnLens xs ns)(hl:xs.length≤100000)(hk:k≤9223372036854775807):
  Calls prog 26 #[.agg #[pv],.string wd,.int .i64 ((k:Nat):Int)] w fun e w'=>e=.returned (findV xs (findSig wd k (sigsV xs ns)))∧Below w.heap.size w w':=by
 have hmf:∀(fn:Go.Fn) (first cap:Array Value) (w:World),(Instr.makeFunc fn first cap).run prog w=.ok (.func fn first cap) w:=fun _ _ _ _=>rfl
 have fb:=FindB.new w pv wd k 57 9 3 66
 generalize hX:((((w.alloc (.cells #[pv] 57)).alloc (.cells #[.string wd] 9)).alloc (.cells #[.int .i64 ((k:Nat):Int)] 3)).alloc (.cells #[.string ⟨#[]⟩,.int .i64 0,.slice none 0 0,.nilIface] 66))=X at fb
 have bX:Below w.heap.size w X:=by
  rw[←hX]
  exact ((((Below.refl _ _).alloc (Nat.le_refl _) _).alloc (by simp) _).alloc (by simp;omega) _).alloc (by simp;omega) _
 have hXz:X.heap.size=w.heap.size+4:=by rw[←hX];simp
 have ci:=indexFunc_any pv xs ns wd k (w.heap.size+1) (w.heap.size+2) X D (row_below hrow bX) hns hl hk fb.a1 fb.a2
 have hzl:(sigsV xs ns).length=xs.length:=by simp[sigsV,hns.length]
 have hsl:∃ad cap,pv=.slice ad xs.length cap:=by
  rcases hrow.2 with ⟨g1,g2⟩ | ⟨g,cap,cur,hv,_⟩
  ·exact⟨_,_,by rw[g1,g2]⟩
  ·exact⟨_,_,hv⟩
 obtain⟨ad,cap,rfl⟩:=hsl
 have HX:Hid (_=X):=hX
 cases hfs:findSig wd k (sigsV xs ns) with
 | none =>
  rw[hfs] at ci
  have ci2:Calls prog 51 #[.slice ad xs.length cap,.func (.func 52) #[] #[.pointer (some ⟨w.heap.size+1,0,none⟩),.pointer (some ⟨w.heap.size+2,0,none⟩)]] X fun e w'=>e=.returned (.int .i64 (-1))∧FindB w' w.heap.size (.slice ad xs.length cap) wd k∧Below w.heap.size w w':=ci.mono fun e w' ⟨h1,h2⟩=>⟨h1,fb.below h2,bX.trans (h2.mono bX.size)⟩
  clear ci hrow hns hfs hzl fb
  rw[←hX] at ci2
  clear hX HX hXz
  go_enter func26,ntmps26
  go_wp2_with fail
  refine ci2.mono ?_
  rintro e w2 ⟨rfl,⟨a0,a1,a2,a3,a4,a5,a6,f3⟩,bw⟩
  have f30:=f3 0
  have f31:=f3 1
  have f32:=f3 2
  have f33:=f3 3
  clear ci2 f3
  go_wp2
  exact bodyPost_ret (v:=.tuple #[zeroFnV,.bool false]) (by simp[results,results26,go_sem,a3,a4,a5,a6,zeroFnV]) rfl ⟨rfl,(((bw.setCell (p:=⟨w.heap.size+3,0,none⟩) (by simp) _).setCell (p:=⟨w.heap.size+3,1,none⟩) (by simp) _).setCell (p:=⟨w.heap.size+3,2,none⟩) (by simp) _).setCell (p:=⟨w.heap.size+3,3,none⟩) (by simp) _⟩
 | some j =>
  rw[hfs] at ci
  obtain⟨_,hj⟩:=findSig_some hfs
  rw[hzl] at hj
  obtain⟨g,cap',hpv,hg,hc1,hc2,hcell⟩:=hrow.cell (by omega)
  cases hpv
  obtain⟨e0,e1,e2,e3⟩:=fnCells_at xs j hj
  have r0:w.cell? ⟨g,j*4,none⟩=some (.string xs[j].nb):=by rw[hcell (j*4) (by omega)];exact e0
  have r1:w.cell? ⟨g,j*4+1,none⟩=some (.int .i64 ((xs[j].at_:Nat):Int)):=by rw[hcell (j*4+1) (by omega)];exact e1
  have r2:w.cell? ⟨g,j*4+2,none⟩=some xs[j].pv:=by rw[hcell (j*4+2) (by omega)];exact e2
  have r3:w.cell? ⟨g,j*4+3,none⟩=some xs[j].bv:=by rw[hcell (j*4+3) (by omega)];exact e3
  have hgl:=cell_lt r0
  simp only at hgl
  have hfv:findV xs (some j)=.tuple #[fnV xs[j],.bool true]:=by simp[findV,hj]
  rw[hfv]
  have hgne:g≠w.heap.size+3:=by omega
  have hjn:j<ns.length:=by rw[←hns.length];exact hj
  obtain⟨pn,pad,pcap,hpv⟩:∃pn pad pcap,xs[j].pv=.slice pad pn pcap:=by
   obtain⟨_,pad,pcap,h⟩:=hns.at j hj hjn
   exact⟨_,pad,pcap,h⟩
  obtain⟨tb,xb,hbx⟩:=hbv xs[j] (List.getElem_mem hj)
  have hji:((j:Nat):Int)<((xs.length:Nat):Int):=by omega
  have hji0:(0:Int)≤((j:Nat):Int):=by omega
  have ci2:Calls prog 51 #[.slice (some ⟨g,0,none⟩) xs.length cap,.func (.func 52) #[] #[.pointer (some ⟨w.heap.size+1,0,none⟩),.pointer (some ⟨w.heap.size+2,0,none⟩)]] X fun e w'=>e=.returned (.int .i64 ((j:Nat):Int))∧FindB w' w.heap.size (.slice (some ⟨g,0,none⟩) xs.length cap) wd k∧Below w.heap.size w w':=ci.mono fun e w' ⟨h1,h2⟩=>⟨h1,fb.below h2,bX.trans (h2.mono bX.size)⟩
  unfold maxLen at hc2
  rw[fnV,hpv,hbx]
  rw[hpv] at r2
  rw[hbx] at r3
  clear ci hrow hfs hzl fb hfv hcell e0 e1 e2 e3 hbv hpv hbx hjn hns
  generalize xs[j].nb=nb at *
  generalize xs[j].at_=at_ at *
  rw[←hX] at ci2
  clear hX HX hXz
  go_enter func26,ntmps26
  go_wp2_with fail
  refine ci2.mono ?_
  rintro e w2 ⟨rfl,⟨a0,a1,a2,a3,a4,a5,a6,f3⟩,bw⟩
  have f30:=f3 0
  have f31:=f3 1
  have f32:=f3 2
  have f33:=f3 3
  have s0:=Below.cellv bw r0
  have s1:=Below.cellv bw r1
  have s2:=Below.cellv bw r2
  have s3:=Below.cellv bw r3
  clear ci2 f3 r0 r1 r2 r3
  go_wp2
  exact bodyPost_ret (v:=.tuple #[.agg #[.string nb,.int .i64 ((at_:Nat):Int),.slice pad pn pcap,.iface tb xb],.bool true]) (by simp[results,results26,go_sem,a3,a4,a5,a6]) rfl ⟨rfl,(((bw.setCell (p:=⟨w.heap.size+3,0,none⟩) (by simp) _).setCell (p:=⟨w.heap.size+3,1,none⟩) (by simp) _).setCell (p:=⟨w.heap.size+3,2,none⟩) (by simp) _).setCell (p:=⟨w.heap.size+3,3,none⟩) (by simp) _⟩
def mainOk (l:List (ByteArray×Nat)):Bool:=hasSig ⟨#[105,110,105,116]⟩ 0 l&&hasSig ⟨#[117,112,100,97,116,101]⟩ 2 l&&hasSig ⟨#[118,105,101,119]⟩ 1 l
def someFn (s:ByteArray)(z:Int)(ad:Option Addr)(n cap:Nat)(d:Value):Value:=.agg #[.string s,.int .i64 z,.slice ad n cap,d]
theorem findV_has (xs:List FnV)(ns:List Nat)(wd:ByteArray)(k:Nat)(hns:FnLens xs ns)(hbv:∀x∈xs,∃t y,x.bv=Value.iface t y):∃s z ad n cap d,findV xs (findSig wd k (sigsV xs ns))=.tuple #[.agg #[.string s,.int .i64 z,.slice ad n cap,d],.bool (hasSig wd k (sigsV xs ns))]∧(d=.nilIface∨∃t y,d=.iface t y):=by
 have hl:=hns.length
 cases h:findSig wd k (sigsV xs ns) with
 | none=>rw[findSig_none h];exact⟨_,_,_,_,_,_,rfl,Or.inl rfl⟩
 | some j =>
  obtain⟨h1,h2⟩:=findSig_some h
  rw[h1]
  have hj:j<xs.length:=by simpa[sigsV,hl] using h2
  obtain⟨_,pad,pcap,hpv⟩:=hns.at j hj (by omega)
  obtain⟨t,y,hb⟩:=hbv xs[j] (List.getElem_mem hj)
  simp only[findV,List.getElem?_eq_getElem hj,fnV,hpv,hb]
  exact⟨_,_,_,_,_,_,rfl,Or.inr ⟨_,_,rfl⟩⟩
theorem hasMain_any (ad:Option Addr)(n cap:Nat)(xs:List FnV)(ns:List Nat)(w:World)(D:Nat→Prop)(hbv:∀x∈xs,∃t y,x.bv=Value.iface t y)(hrow:RowAt w D 66 4 (.slice ad n cap) xs.length (fnCells xs))(hns:FnLens xs ns)(hl:xs.length≤100000):
  Calls prog 50 #[.agg #[.slice ad n cap]] w fun e w'=>e=.returned (.bool (mainOk (sigsV xs ns)))∧Below w.heap.size w w':=by
 have hF:∀(wd:ByteArray) (k:Nat) (_:k≤100) (w':World),Below w.heap.size w w'→Calls prog 26 #[.agg #[.slice ad n cap],.string wd,.int .i64 ((k:Nat):Int)] w' fun e w''=>(∃s z ad n cap d,e=.returned (.tuple #[.agg #[.string s,.int .i64 z,.slice ad n cap,d],.bool (hasSig wd k (sigsV xs ns))])∧(d=.nilIface∨∃t y,d=.iface t y))∧Below w'.heap.size w' w'':=fun wd k hk w' hb=>(find_fn _ xs ns wd k w' D hbv (row_below hrow hb) hns hl (by omega)).mono fun e w'' ⟨h1,h2⟩=>by
  obtain⟨s,z,ad,n,cap,d,h,hd⟩:=findV_has xs ns wd k hns hbv
  exact⟨⟨s,z,ad,n,cap,d,by rw[h1,h],hd⟩,h2⟩
 have h1:=hF ⟨#[105,110,105,116]⟩ 0 (by omega)
 have h2:=hF ⟨#[117,112,100,97,116,101]⟩ 2 (by omega)
 have h3:=hF ⟨#[118,105,101,119]⟩ 1 (by omega)
 have HR:Hid (mainOk (sigsV xs ns)=(hasSig ⟨#[105,110,105,116]⟩ 0 (sigsV xs ns)&&hasSig ⟨#[117,112,100,97,116,101]⟩ 2 (sigsV xs ns)&&hasSig ⟨#[118,105,101,119]⟩ 1 (sigsV xs ns))):=rfl
 clear hrow hns hF
 generalize hasSig ⟨#[105,110,105,116]⟩ 0 (sigsV xs ns)=x1 at *
 generalize hasSig ⟨#[117,112,100,97,116,101]⟩ 2 (sigsV xs ns)=x2 at *
 generalize hasSig ⟨#[118,105,101,119]⟩ 1 (sigsV xs ns)=x3 at *
 generalize mainOk (sigsV xs ns)=mo at *
 have e:mo=(x1&&x2&&x3):=HR.out
 subst e
 clear HR
 have bA:=below1 w (Obj.cells #[.slice ad n cap] 57)
 have n0:(w.alloc (Obj.cells #[.slice ad n cap] 57)).cell? ⟨w.heap.size,0,none⟩=some (.slice ad n cap):=by
  have h:(w.alloc (Obj.cells #[.slice ad n cap] 57)).heap[w.heap.size]?=some (.cells #[.slice ad n cap] 57):=heap_alloc_new _ _
  unfold World.cell?;rw[h];rfl
 go_enter func50,ntmps50
 go_wp2_with fail
 refine (h1 _ bA).mono ?_
 rintro e w1 ⟨⟨s1,z1,p1,n1,q1,d1,rfl,hd1⟩,hb1⟩
 have m1:=Below.cellv hb1 n0
 have bb1:=bA.trans (hb1.mono bA.size)
 have hl1:=cell_lt m1
 clear n0
 rcases hd1 with rfl | ⟨t1,y1,rfl⟩
 all_goals
  go_wp2_with fail
  refine (h2 _ (bb1.alloc bb1.size _)).mono ?_
  rintro e w2 ⟨⟨s2,z2,p2,n2,q2,d2,rfl,hd2⟩,hb2⟩
  have m2:=Below.cellv hb2 (alloc_cell m1)
  have bb2:=(bb1.alloc bb1.size _).trans (hb2.mono (bb1.alloc bb1.size _).size)
  have hl2:=cell_lt m2
  rcases hd2 with rfl | ⟨t2,y2,rfl⟩
  all_goals
   go_wp2_with fail
   refine (h3 _ (bb2.alloc bb2.size _)).mono ?_
   rintro e w3 ⟨⟨s3,z3,p3,n3,q3,d3,rfl,hd3⟩,hb3⟩
   have bb3:=(bb2.alloc bb2.size _).trans (hb3.mono (bb2.alloc bb2.size _).size)
   rcases hd3 with rfl | ⟨t3,y3,rfl⟩
   all_goals
    cases x1
    ·go_wp2
     go_ret
     exact⟨rfl,bb3.alloc bb3.size _⟩
    ·cases x2
     ·go_wp2
      go_ret
      exact⟨rfl,bb3.alloc bb3.size _⟩
     ·go_wp2
      go_ret
      exact⟨rfl,bb3.alloc bb3.size _⟩
end Go.Proofs.YtifhgjpglicjbaaGreatDoor
namespace Go.Proofs.YtifhgjpglicjbaaGreatDoor
open Go.Proofs.Tryz
theorem suf_cons {α:Type}{r ts:List α}(t:α)(h:r <:+ ts):r <:+ t::ts:=h.trans (List.suffix_cons t ts)
theorem pF_sz {L:Nat→Int→List Tok→Res (List Ex)}(hL:∀d m ts es r,L d m ts=.ok es r→szEs es+2*r.length+2≤2*ts.length∧r <:+ ts){d:Nat}{ts:List Tok}{e:Ex}{r:List Tok}(h:pF L d ts=.ok e r):szE e+1+2*r.length≤2*ts.length∧r <:+ ts:=by
 cases ts with
 | nil=>cases h
 | cons t ts =>
  simp only[pF] at h
  split at h
  ·cases h
  ·rename_i n _
   cases g:L d n ts with
   | err c a=>rw[g] at h;cases h
   | ok ks r' =>
    rw[g] at h
    cases h
    obtain⟨h1,h2⟩:=hL _ _ _ _ _ g
    refine⟨?_,suf_cons t h2⟩
    simp[szE];omega
  ·rename_i n _
   cases ts with
   | nil=>cases h
   | cons u us =>
    simp only at h
    split at h
    ·cases g:L d n us with
     | err c a=>rw[g] at h;cases h
     | ok ks r' =>
      rw[g] at h
      cases h
      obtain⟨h1,h2⟩:=hL _ _ _ _ _ g
      refine⟨?_,suf_cons t (suf_cons u h2)⟩
      simp[szE];omega
    ·cases h
theorem pE_sz {L:Nat→Int→List Tok→Res (List Ex)}(hL:∀d m ts es r,L d m ts=.ok es r→szEs es+2*r.length+2≤2*ts.length∧r <:+ ts){d:Nat}{ts:List Tok}{e:Ex}{r:List Tok}(h:pE L d ts=.ok e r):szE e+1+2*r.length≤2*ts.length∧r <:+ ts:=by
 cases ts with
 | nil=>cases h
 | cons t ts =>
  simp only[pE] at h
  split at h
  ·cases h;exact⟨by simp[szE];omega,List.suffix_cons _ _⟩
  ·cases h;exact⟨by simp[szE];omega,List.suffix_cons _ _⟩
  ·split at h
   ·cases h
   ·cases h;exact⟨by simp[szE];omega,List.suffix_cons _ _⟩
  ·split at h
   ·cases h
   ·obtain⟨h1,h2⟩:=pF_sz hL h
    refine⟨?_,suf_cons t h2⟩
    simp;omega
  ·cases h
theorem pL_sz:∀(f d:Nat) (m:Int) (ts:List Tok) (es:List Ex) (r:List Tok),pL f d m ts=.ok es r→szEs es+2*r.length+2≤2*ts.length∧r <:+ ts
 | 0,_,_,_,_,_,h=>by cases h
 | f+1,_,_,[],_,_,h=>by cases h
 | f+1,d,m,t::ts,es,r,h=>by
  simp only[pL] at h
  split at h
  ·split at h
   ·cases h;exact⟨by simp[szEs];omega,List.suffix_cons _ _⟩
   ·cases h
  ·cases g:pE (pL f) d (t::ts) with
   | err c a=>rw[g] at h;cases h
   | ok e r' =>
    rw[g] at h
    obtain⟨h1,h2⟩:=pE_sz (fun d m ts es r=>pL_sz f d m ts es r) g
    cases g2:pL f d (if m<0 then m else m-1) r' with
    | err c a=>simp only[g2,consR] at h;cases h
    | ok es' r'' =>
     simp only[g2,consR] at h
     cases h
     obtain⟨h3,h4⟩:=pL_sz f _ _ _ _ _ g2
     refine⟨?_,h4.trans h2⟩
     simp only[szEs]
     omega
theorem pP_sz:∀(ts:List Tok) (ns:List (List UInt8×Nat)) (r:List Tok),pP ts=.ok ns r→ns.length+r.length+1≤ts.length∧r <:+ ts
 | [],_,_,h=>by cases h
 | t::ts,ns,r,h=>by
  simp only[pP] at h
  split at h
  ·cases h;exact⟨by simp,List.suffix_cons _ _⟩
  ·split at h
   ·cases g:pP ts with
    | err c a=>simp only[g,consN] at h;cases h
    | ok ns' r' =>
     simp only[g,consN] at h
     cases h
     obtain⟨h1,h2⟩:=pP_sz ts _ _ g
     refine⟨?_,suf_cons t h2⟩
     simp;omega
   ·cases h
theorem pFun_sz {g:Nat}{ts:List Tok}{fn:Fn}{r:List Tok}(h:pFun g ts=.ok fn r):fn.params.length+szE fn.body≤3*ts.length∧r <:+ ts∧∃t∈ts,fn.name=t.body:=by
 match ts,h with
 | t::u::n::o::ts,h =>
  simp only[pFun] at h
  split at h
  ·cases h
  split at h
  ·cases h
  split at h
  ·cases h
  split at h
  ·cases h
  cases e:pP ts with
  | err c a=>rw[e] at h;cases h
  | ok ns r1 =>
   rw[e] at h
   simp only[paramsR] at h
   obtain⟨h1,h2⟩:=pP_sz _ _ _ e
   cases e2:pL g 1 1 r1 with
   | err c a=>rw[e2] at h;cases h
   | ok es r2 =>
    rw[e2] at h
    obtain⟨h3,h4⟩:=pL_sz _ _ _ _ _ _ e2
    cases es with
    | nil=>cases h
    | cons b l =>
     cases h
     refine⟨?_,suf_cons _ (suf_cons _ (suf_cons _ (suf_cons _ (h4.trans h2)))),n,by simp,rfl⟩
     simp only[szEs] at h3
     simp
     omega
 | [t,u,n],h =>
  simp only[pFun] at h
  split at h
  ·cases h
  split at h<;>cases h
 | [t,u],h =>
  simp only[pFun] at h
  split at h<;>cases h
 | [t],h=>cases h
 | [],h=>cases h
theorem pProg_sz:∀(f:Nat) (ts:List Tok) (fns:List Fn) (r:List Tok),pProg f ts=.ok fns r→fns.length≤ts.length∧∀fn∈fns,fn.params.length+szE fn.body≤3*ts.length∧∃t∈ts,fn.name=t.body
 | 0,_,_,_,h=>by cases h
 | f+1,[],_,_,h=>by cases h
 | f+1,t::ts,fns,r,h=>by
  simp only[pProg] at h
  split at h
  ·cases h;exact⟨by simp,fun fn hf=>by simp at hf⟩
  ·cases g:pFun (f+1) (t::ts) with
   | err c a=>rw[g] at h;cases h
   | ok fn r' =>
    rw[g] at h
    obtain⟨h1,h2,h3⟩:=pFun_sz g
    have h0:=pFun_len g
    cases g2:pProg f r' with
    | err c a=>simp only[g2,consF] at h;cases h
    | ok fns' r'' =>
     simp only[g2,consF] at h
     cases h
     obtain⟨h4,h5⟩:=pProg_sz f _ _ _ g2
     refine⟨by simp at h0 ⊢;omega,fun x hx=>?_⟩
     rcases List.mem_cons.1 hx with e | hx
     ·subst e;exact⟨h1,h3⟩
     ·obtain⟨h6,t',ht,e⟩:=h5 x hx
      exact⟨by omega,t',h2.subset ht,e⟩
theorem nextTok_body (s:List UInt8)(p:Nat):(nextTok s p).body.length≤s.length:=by
 simp only[nextTok,List.length_take,List.length_drop]
 omega
theorem IsToks.bodies {s:List UInt8}{p:Nat}{ts:List Tok}(h:IsToks s p ts):∀t∈ts,t.body.length≤s.length:=by
 induction h with
 | last _=>intro t ht;simp at ht;subst ht;exact nextTok_body _ _
 | more _ _ _ ih =>
  intro t ht
  rcases List.mem_cons.1 ht with e | ht
  ·subst e;exact nextTok_body _ _
  ·exact ih t ht
theorem small_of {s:List UInt8}{ts:List Tok}(hts:IsToks s 0 ts)(hs:s.length≤2000){fns:List Fn}{r:List Tok}{f:Nat}(h:pProg f ts=.ok fns r)(hl:ts.length≤s.length+1):(∀fn∈fns,fn.small)∧fns.length≤2001:=by
 obtain⟨h1,h2⟩:=pProg_sz f ts fns r h
 refine⟨fun fn hf=>?_,by omega⟩
 obtain⟨h3,t,ht,e⟩:=h2 fn hf
 have:=hts.bodies t ht
 exact⟨by rw[e];omega,by omega⟩
end Go.Proofs.YtifhgjpglicjbaaGreatDoor
