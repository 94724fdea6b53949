/-
  What a text is read as: a value, as it is written. No model in it.
-/
import Derived.Test.YtifhgjpglicjbaaGreatDoorRowK
import Derived.RowKit
import Derived.Test.YtifhgjpglicjbaaGreatDoorNamJ
namespace Go.Proofs.YtifhgjpglicjbaaGreatDoor
open Go.Lib
def numOf (l:List UInt8):Option Int:=if itoa (numVal l)=l∧In64 (numVal l) then some (numVal l) else none
def numLen (l:List UInt8):Nat:=l.length-(unsignL l).length+runL digit (unsignL l)
theorem numLen_le (l:List UInt8):numLen l≤l.length:=by
 have:=runL_le digit (unsignL l)
 have:=unsign_len l
 unfold numLen
 omega
mutual
def rdV:Nat→List UInt8→Option (PV×List UInt8)
 | 0,_=>none
 | f+1,l =>
  if startsB 40 l then match rdL f true (l.drop 1) with
   | none=>none
   | some (vs,r)=>some (.lst vs,r)
  else if startsB 39 l then
   (if startsB 39 ((l.drop 1).drop (runL quot (l.drop 1))) then some (.txt ((l.drop 1).take (runL quot (l.drop 1))),((l.drop 1).drop (runL quot (l.drop 1))).drop 1) else none)
  else match numOf (l.take (numLen l)) with
   | none=>none
   | some z=>some (.num z,l.drop (numLen l))
def rdL:Nat→Bool→List UInt8→Option (List PV×List UInt8)
 | 0,_,_=>none
 | f+1,first,l =>
  if startsB 41 l then some ([],l.drop 1)
  else if first=false∧startsB 32 l=false then none
  else match rdV f (if first then l else l.drop 1) with
   | none=>none
   | some (v,r)=>match rdL f false r with
    | none=>none
    | some (vs,r')=>some (v::vs,r')
end
theorem starts_cons {c:UInt8}{l:List UInt8}(h:startsB c l=true):l=c::l.drop 1:=by
 cases l with
 | nil=>simp[startsB] at h
 | cons a r=>simp[startsB] at h;simp[h]
theorem itoa_ne (z:Int):itoa z≠[]:=by
 unfold itoa
 split
 ·simp
 ·rw[decDigits]
  split<;>simp
theorem numOf_some {l:List UInt8}{z:Int}(h:numOf l=some z):itoa z=l∧In64 z∧z=numVal l:=by
 unfold numOf at h
 split at h
 ·rename_i g
  cases h
  exact⟨g.1,g.2,rfl⟩
 ·cases h
mutual
theorem rdV_wr:∀(f:Nat) (l:List UInt8) (v:PV) (r:List UInt8),rdV f l=some (v,r)→l=wrV v++r∧okV v
 | 0,l,v,r,h=>by simp[rdV] at h
 | f+1,l,v,r,h=>by
  rw[rdV] at h
  split at h
  ·rename_i h1
   split at h
   ·cases h
   ·rename_i vs r' hL
    cases h
    obtain⟨e,o⟩:=rdL_wr f true (l.drop 1) vs r hL
    refine⟨?_,by rw[okV];exact o⟩
    rw[starts_cons h1,e,wrV]
    simp
  ·split at h
   ·rename_i h1 h2
    split at h
    ·rename_i h3
     cases h
     refine⟨?_,by rw[okV];trivial⟩
     have e:=starts_cons h3
     generalize runL quot (l.drop 1)=n at *
     have e2:=starts_cons h2
     generalize l.drop 1=q at *
     subst e2
     rw[wrV]
     have e4:q=q.take n++39::(q.drop n).drop 1:=by rw[←e,List.take_append_drop]
     simp only[List.cons_append,List.append_assoc,List.nil_append,List.cons.injEq,true_and]
     exact e4
    ·cases h
   ·split at h
    ·cases h
    ·rename_i z hz
     cases h
     obtain⟨e1,e2,_⟩:=numOf_some hz
     refine⟨?_,by rw[okV];exact e2⟩
     rw[wrV,e1,List.take_append_drop]
theorem rdL_wr:∀(f:Nat) (b:Bool) (l:List UInt8) (vs:List PV) (r:List UInt8),rdL f b l=some (vs,r)→l=(if b then wrVs vs else wrT vs)++41::r∧okVs vs
 | 0,b,l,vs,r,h=>by simp[rdL] at h
 | f+1,b,l,vs,r,h=>by
  rw[rdL] at h
  split at h
  ·rename_i h1
   cases h
   refine⟨?_,by rw[okVs];trivial⟩
   have e:=starts_cons h1
   cases b<;>simp[wrVs,wrT]<;>simpa using e
  ·split at h
   ·cases h
   ·rename_i h1 h2
    split at h
    ·cases h
    ·rename_i v r1 hv
     split at h
     ·cases h
     ·rename_i us r2 hL
      cases h
      obtain⟨e1,o1⟩:=rdV_wr f _ v r1 hv
      obtain⟨e2,o2⟩:=rdL_wr f false r1 us r hL
      refine⟨?_,by rw[okVs];exact⟨o1,o2⟩⟩
      cases b with
      | true =>
       simp only[if_true] at e1 ⊢
       rw[e1,e2,wrVs]
       simp
      | false =>
       have h3:startsB 32 l=true:=by
        cases hh:startsB 32 l with
        | true=>rfl
        | false=>exact absurd ⟨rfl,hh⟩ h2
       simp only[Bool.false_eq_true,if_false] at e1 e2 ⊢
       rw[starts_cons h3,e1,e2,wrT]
       simp
end
theorem rdV_lt {f:Nat}{l:List UInt8}{v:PV}{r:List UInt8}(h:rdV f l=some (v,r)):r.length<l.length:=by
 obtain⟨e,_⟩:=rdV_wr f l v r h
 have:0<(wrV v).length:=by
  cases v with
  | num z=>rw[wrV];exact List.length_pos_iff.2 (itoa_ne z)
  | txt b=>rw[wrV];simp
  | lst l=>rw[wrV];simp
 rw[e]
 simp
 omega
theorem rdL_lt {f:Nat}{b:Bool}{l:List UInt8}{vs:List PV}{r:List UInt8}(h:rdL f b l=some (vs,r)):r.length<l.length:=by
 obtain⟨e,_⟩:=rdL_wr f b l vs r h
 rw[e]
 simp
 omega
mutual
theorem rdV_fuel:∀(f g:Nat) (l:List UInt8),2*l.length+1≤f→2*l.length+1≤g→rdV f l=rdV g l
 | 0,g,l,h,_=>by omega
 | f+1,0,l,_,h=>by omega
 | f+1,g+1,l,hf,hg=>by
  rw[rdV,rdV]
  split
  ·rename_i h1
   have hl:(l.drop 1).length+1=l.length:=by rw[starts_cons h1];simp
   rw[rdL_fuel f g true (l.drop 1) (by omega) (by omega)]
  ·rfl
theorem rdL_fuel:∀(f g:Nat) (b:Bool) (l:List UInt8),2*l.length+2≤f→2*l.length+2≤g→rdL f b l=rdL g b l
 | 0,g,b,l,h,_=>by omega
 | f+1,0,b,l,_,h=>by omega
 | f+1,g+1,b,l,hf,hg=>by
  rw[rdL,rdL]
  split
  ·rfl
  ·split
   ·rfl
   ·have hl:(if b then l else l.drop 1).length≤l.length:=by cases b<;>simp
    rw[rdV_fuel f g _ (by omega) (by omega)]
    split
    ·rfl
    ·rename_i v r hv
     have:=rdV_lt hv
     rw[rdL_fuel f g false r (by omega) (by omega)]
end
def readV (l:List UInt8):Option PV :=
 match rdV (2*l.length+1) l with
 | some (v,r)=>if r=[]∧wtV v≤600 then some v else none
 | none=>none
theorem readV_some {l:List UInt8}{v:PV}(h:readV l=some v):l=wrV v∧okV v∧wtV v≤600:=by
 unfold readV at h
 split at h
 ·rename_i u r hr
  split at h
  ·rename_i g
   cases h
   obtain⟨e,o⟩:=rdV_wr _ _ _ _ hr
   rw[g.1,List.append_nil] at e
   exact⟨e,o,g.2⟩
  ·cases h
 ·cases h
theorem readV_long {l:List UInt8}(h:20000<l.length):readV l=none:=by
 cases hr:readV l with
 | none=>rfl
 | some v =>
  obtain⟨e,o,g⟩:=readV_some hr
  have:=wrV_len v o
  rw[←e] at this
  omega
end Go.Proofs.YtifhgjpglicjbaaGreatDoor
namespace Go.Proofs.YtifhgjpglicjbaaGreatDoor
mutual
def WfE:Ex→Prop
 | .num _=>True
 | .txt _=>True
 | .var _ _=>True
 | .form w _ _ ks=>(∃b m,shapeL w=some (b,m)∧(0≤m→(ks.length:Int)=m))∧WfEs ks
def WfEs:List Ex→Prop
 | []=>True
 | e::es=>WfE e∧WfEs es
end
theorem pF_wf {L:Nat→Int→List Tok→Res (List Ex)}(hL:∀d m ts es r,L d m ts=.ok es r→(0≤m→(es.length:Int)=m)∧WfEs es){d:Nat}{ts:List Tok}{e:Ex}{r:List Tok}(h:pF L d ts=.ok e r):WfE e:=by
 cases ts with
 | nil=>cases h
 | cons t ts =>
  simp only[pF] at h
  have hsh:∀x,shapeT t=some x→shapeL t.body=some x:=by
   intro x hx
   unfold shapeT at hx
   split at hx
   ·exact hx
   ·cases hx
  split at h
  ·cases h
  ·rename_i n hn
   cases g:L d n ts with
   | err c a=>rw[g] at h;cases h
   | ok ks r' =>
    rw[g] at h
    cases h
    obtain⟨h1,h2⟩:=hL _ _ _ _ _ g
    rw[WfE]
    exact⟨⟨_,_,hsh _ hn,h1⟩,h2⟩
  ·rename_i n hn
   cases ts with
   | nil=>cases h
   | cons u us =>
    simp only at h
    split at h
    ·cases g:L d n us with
     | err c a=>rw[g] at h;cases h
     | ok ks r' =>
      rw[g] at h
      cases h
      obtain⟨h1,h2⟩:=hL _ _ _ _ _ g
      rw[WfE]
      exact⟨⟨_,_,hsh _ hn,h1⟩,h2⟩
    ·cases h
theorem pE_wf {L:Nat→Int→List Tok→Res (List Ex)}(hL:∀d m ts es r,L d m ts=.ok es r→(0≤m→(es.length:Int)=m)∧WfEs es){d:Nat}{ts:List Tok}{e:Ex}{r:List Tok}(h:pE L d ts=.ok e r):WfE e:=by
 cases ts with
 | nil=>cases h
 | cons t ts =>
  simp only[pE] at h
  split at h
  ·cases h;rw[WfE];trivial
  ·cases h;rw[WfE];trivial
  ·split at h
   ·cases h
   ·cases h;rw[WfE];trivial
  ·split at h
   ·cases h
   ·exact pF_wf hL h
  ·cases h
theorem pL_wf:∀(f d:Nat) (m:Int) (ts:List Tok) (es:List Ex) (r:List Tok),pL f d m ts=.ok es r→(0≤m→(es.length:Int)=m)∧WfEs es
 | 0,_,_,_,_,_,h=>by cases h
 | f+1,_,_,[],_,_,h=>by cases h
 | f+1,d,m,t::ts,es,r,h=>by
  simp only[pL] at h
  split at h
  ·rename_i hc
   split at h
   ·cases h
    refine⟨fun h0=>?_,by rw[WfEs];trivial⟩
    rcases hc with hc | hc
    ·simp[hc]
    ·omega
   ·cases h
  ·cases g:pE (pL f) d (t::ts) with
   | err c a=>rw[g] at h;cases h
   | ok e r' =>
    rw[g] at h
    have h1:=pE_wf (fun d m ts es r=>pL_wf f d m ts es r) g
    cases g2:pL f d (if m<0 then m else m-1) r' with
    | err c a=>simp only[g2,consR] at h;cases h
    | ok es' r'' =>
     simp only[g2,consR] at h
     cases h
     obtain⟨h2,h3⟩:=pL_wf f _ _ _ _ _ g2
     refine⟨fun h0=>?_,by rw[WfEs];exact⟨h1,h3⟩⟩
     have:¬ m<0:=by omega
     rw[if_neg this] at h2
     rename_i hnc
     have hm0:¬ m=0:=fun e=>hnc (Or.inl e)
     have:=h2 (by omega)
     simp;omega
theorem pFun_wf {G:Nat}{ts:List Tok}{fn:Fn}{r:List Tok}(h:pFun G ts=.ok fn r):WfE fn.body:=by
 match ts,h with
 | t::u::n::o::ts,h =>
  simp only[pFun] at h
  split at h
  ·cases h
  split at h
  ·cases h
  split at h
  ·cases h
  split at h
  ·cases h
  cases e:pP ts with
  | err c a=>rw[e] at h;cases h
  | ok ns r1 =>
   rw[e] at h
   simp only[paramsR] at h
   cases e2:pL G 1 1 r1 with
   | err c a=>rw[e2] at h;cases h
   | ok es r2 =>
    rw[e2] at h
    have h2:=(pL_wf _ _ _ _ _ _ e2).2
    cases es with
    | nil=>cases h
    | cons b l =>
     cases h
     rw[WfEs] at h2
     exact h2.1
 | [t,u,n],h =>
  simp only[pFun] at h
  split at h
  ·cases h
  split at h<;>cases h
 | [t,u],h =>
  simp only[pFun] at h
  split at h<;>cases h
 | [t],h=>cases h
 | [],h=>cases h
def nmK (fs:List (List UInt8×Nat))(scope:List (List UInt8))(wd n:List UInt8):Nat→List Ex→Option (Nat×Nat)
 | _,[]=>none
 | i,e::es=>orE (nmE fs (if (wd==[108,101,116]&&i==1) then scope++[n] else scope) e) (nmK fs scope wd n (i+1) es)
theorem nmK_other {fs:List (List UInt8×Nat)}{scope:List (List UInt8)}{wd n:List UInt8}(h:(wd==[108,101,116])=false):∀(i:Nat) (ks:List Ex),nmK fs scope wd n i ks=nmEs fs scope ks
 | _,[]=>by rw[nmK,nmEs]
 | i,e::es=>by rw[nmK,nmEs,nmK_other h (i+1) es,h];simp
theorem nmE_form {fs:List (List UInt8×Nat)}{scope:List (List UInt8)}{wd n:List UInt8}{a:Nat}{ks:List Ex}(hw:WfE (.form wd n a ks)):
  nmE fs scope (.form wd n a ks)=if (wd==[99,97,108,108] || wd==[109,97,112]) then orE (callErr fs n a ks.length) (nmK fs scope wd n 0 ks) else nmK fs scope wd n 0 ks:=by
 rw[nmE]
 cases hl:wd==[108,101,116] with
 | false=>rw[nmK_other hl];simp
 | true =>
  have hwd:wd=[108,101,116]:=by simpa using hl
  subst hwd
  rw[WfE] at hw
  obtain⟨⟨b,m,h1,h2⟩,_⟩:=hw
  simp[shapeL] at h1
  obtain⟨rfl,rfl⟩:=h1
  have h3:=h2 (by decide)
  match ks,h3 with
  | [x,y],_=>simp[nmLet,nmK,nmEs]
theorem nmK_drop (fs:List (List UInt8×Nat))(scope:List (List UInt8))(wd n:List UInt8)(ks:List Ex)(i:Nat)(hi:i<ks.length):nmK fs scope wd n i (ks.drop i)=orE (nmE fs (if (wd==[108,101,116]&&i==1) then scope++[n] else scope) ks[i]) (nmK fs scope wd n (i+1) (ks.drop (i+1))):=by
 rw[List.drop_eq_getElem_cons hi,nmK]
theorem WfEs_at:∀(es:List Ex) (j:Nat) (hj:j<es.length),WfEs es→WfE es[j]
 | [],j,hj,_=>by simp at hj
 | e::es,0,_,h=>by rw[WfEs] at h;exact h.1
 | e::es,j+1,hj,h=>by rw[WfEs] at h;exact WfEs_at es j (by simpa using hj) h.2
end Go.Proofs.YtifhgjpglicjbaaGreatDoor
namespace Go.Proofs.YtifhgjpglicjbaaGreatDoor
open Go.RowKit
abbrev Env:=List (List UInt8×PV)
def envOf (s:Env)(n:List UInt8):Option PV:=(s.find? fun x=>x.1==n).map (·.2)
def bitV (b:Bool):PV:=.num (if b then 1 else 0)
def atV (l:List PV)(i:Int):Option PV:=if 0≤i then l[i.toNat]? else none
def setV (l:List PV)(i:Int)(v:PV):Option PV:=if 0≤i∧i<l.length then some (.lst (l.set i.toNat v)) else none
def numOp (wd:List UInt8)(x y:Int):PV :=
 if wd=[97,100,100] then .num (wrap64 (x+y)) else if wd=[115,117,98] then .num (wrap64 (x-y)) else if wd=[109,117,108] then .num (wrap64 (x*y)) else bitV (decide (x<y))
def op2 (wd:List UInt8)(a b:PV):Option PV :=
 if wd=[101,113] then some (bitV (sameV a b))
 else if wd=[97,116] then match a,b with
  | .lst l,.num i=>atV l i
  | _,_=>none
 else if wd=[106,111,105,110] then match a,b with
  | .txt x,.txt y=>some (.txt (x++y))
  | .lst x,.lst y=>some (.lst (x++y))
  | _,_=>none
 else match a,b with
  | .num x,.num y=>some (numOp wd x y)
  | _,_=>none
def lengV:PV→Option PV
 | .txt b=>some (.num b.length)
 | .lst l=>some (.num l.length)
 | .num _=>none
def set3:PV→PV→PV→Option PV
 | .lst l,.num i,v=>setV l i v
 | _,_,_=>none
def simpleV (wd:List UInt8):List PV→Option PV
 | [a]=>lengV a
 | [a,b]=>op2 wd a b
 | [a,b,c]=>set3 a b c
 | _=>none
def lightV:Option PV→Option PV
 | some v=>if wtV v≤600 then some v else none
 | none=>none
def evL (E:Nat→Ex→Option (PV×Nat)):Nat→List Ex→Option (List PV×Nat)
 | k,[]=>some ([],k)
 | k,e::es=>match E k e with
  | none=>none
  | some (v,k1)=>match evL E k1 es with
   | none=>none
   | some (vs,k2)=>some (v::vs,k2)
def parEnv (f:Fn)(vs:List PV):Env:=((f.params.map (·.1)).zip vs).reverse
def evC (E:Nat→Env→Ex→Option (PV×Nat))(fns:List Fn)(k:Nat)(n:List UInt8)(vs:List PV):Option (PV×Nat) :=
 match fns.find? (fun f=>f.name==n) with
 | none=>none
 | some f=>E k (parEnv f vs) f.body
def evM (C:Nat→PV→Option (PV×Nat)):Nat→List PV→Option (List PV×Nat)
 | k,[]=>some ([],k)
 | k,v::vs=>match C k v with
  | none=>none
  | some (u,k1)=>match evM C k1 vs with
   | none=>none
   | some (us,k2)=>some (u::us,k2)
def lightL:Option (List PV×Nat)→Option (PV×Nat)
 | some (us,k)=>if wtV (.lst us)≤600 then some (.lst us,k) else none
 | none=>none
def evF (E:Nat→Env→Ex→Option (PV×Nat))(fns:List Fn)(k:Nat)(wd n:List UInt8)(vs:List PV):Option (PV×Nat) :=
 if wd=[108,105,115,116] then lightL (some (vs,k))
 else if wd=[99,97,108,108] then evC E fns k n vs
 else if wd=[109,97,112] then match vs with
  | [.lst l]=>lightL (evM (fun k v=>evC E fns k n [v]) k l)
  | _=>none
 else (lightV (simpleV wd vs)).map fun v=>(v,k)
def evIf (E:Nat→Ex→Option (PV×Nat))(k:Nat):List Ex→Option (PV×Nat)
 | [c,t,e]=>match E k c with
  | some (.num z,k1)=>if z=0 then E k1 e else E k1 t
  | _=>none
 | _=>none
def evLet (E:Nat→Env→Ex→Option (PV×Nat))(k:Nat)(s:Env)(n:List UInt8):List Ex→Option (PV×Nat)
 | [v,b]=>match E k s v with
  | some (u,k1)=>E k1 ((n,u)::s) b
  | none=>none
 | _=>none
def evX (E:Nat→Env→Ex→Option (PV×Nat))(fns:List Fn)(k:Nat)(s:Env):Ex→Option (PV×Nat)
 | .num b=>some (.num (numVal b),k)
 | .txt b=>some (.txt b,k)
 | .var n _=>(envOf s n).map fun v=>(v,k)
 | .form wd n _ ks =>
  if wd=[105,102] then evIf (fun k e=>E k s e) k ks
  else if wd=[108,101,116] then evLet E k s n ks
  else match evL (fun k e=>E k s e) k ks with
   | none=>none
   | some (vs,k1)=>evF E fns k1 wd n vs
def evE (fns:List Fn):Nat→Nat→Env→Ex→Option (PV×Nat)
 | 0,_,_,_=>none
 | _+1,0,_,_=>none
 | f+1,k+1,s,e=>evX (evE fns f) fns k s e
def reckP (fns:List Fn)(n:List UInt8)(vs:List PV):Option PV :=
 match fns.find? (fun f=>f.name==n) with
 | none=>none
 | some f=>if f.params.length=vs.length then (evE fns 20000 20000 (parEnv f vs) f.body).map (·.1) else none
def NumT (b:List UInt8):Prop:=∃ds,(b=ds∨b=45::ds)∧1≤ds.length∧ds.length≤9∧∀c∈ds,digit c=true
theorem digits_lt:∀(ds:List UInt8) (n:Int),(∀c∈ds,digit c=true)→0≤n→0≤ds.foldl (fun n c=>10*n+((c.toNat:Int)-48)) n∧ds.foldl (fun n c=>10*n+((c.toNat:Int)-48)) n<(n+1)*10 ^ ds.length
 | [],n,_,h=>by simp;omega
 | c::ds,n,hd,h=>by
  have hc:=hd c (by simp)
  simp[digit,UInt8.le_iff_toNat_le] at hc
  obtain⟨g1,g2⟩:=digits_lt ds (10*n+((c.toNat:Int)-48)) (fun x hx=>hd x (by simp[hx])) (by omega)
  refine⟨g1,Int.lt_of_lt_of_le g2 ?_⟩
  rw[List.length_cons,Int.pow_succ,show (n+1)*(10 ^ ds.length*10)=((n+1)*10)*10 ^ ds.length by rw[Int.mul_comm (10 ^ ds.length) 10,Int.mul_assoc]]
  exact Int.mul_le_mul_of_nonneg_right (by omega) (Int.pow_nonneg (by decide))
theorem digits_9 {ds:List UInt8}(hd:∀c∈ds,digit c=true)(hl:ds.length≤9):0≤digitsVal ds∧digitsVal ds<1000000000:=by
 obtain⟨g1,g2⟩:=digits_lt ds 0 hd (by decide)
 refine⟨g1,Int.lt_of_lt_of_le g2 ?_⟩
 rw[show (0+1:Int)*10 ^ ds.length=10 ^ ds.length by simp]
 have h10:(10:Nat) ^ ds.length≤10 ^ 9:=Nat.pow_le_pow_right (by decide) hl
 have h11:((10 ^ ds.length:Nat):Int)≤((10 ^ 9:Nat):Int):=Int.ofNat_le.2 h10
 simpa using h11
theorem NumT.val {b:List UInt8}(h:NumT b):-1000000000<numVal b∧numVal b<1000000000:=by
 obtain⟨ds,hb,h1,h9,hd⟩:=h
 have:=digits_9 hd h9
 rcases hb with rfl | rfl
 ·unfold numVal
  split
  ·rename_i g
   cases b with
   | nil=>simp[startsB] at g
   | cons c r =>
    simp[startsB] at g
    have hc:=hd c (by simp)
    rw[g] at hc
    exact absurd hc (by decide)
  ·omega
 ·unfold numVal
  simp[startsB]
  omega
theorem NumT.in64 {b:List UInt8}(h:NumT b):In64 (numVal b):=by
 have:=h.val
 unfold In64
 omega
mutual
def LitE:Ex→Prop
 | .num b=>NumT b
 | .txt b=>b.length≤20
 | .var _ _=>True
 | .form _ _ _ ks=>LitEs ks
def LitEs:List Ex→Prop
 | []=>True
 | e::es=>LitE e∧LitEs es
end
theorem LitEs_at:∀(es:List Ex) (j:Nat) (hj:j<es.length),LitEs es→LitE es[j]
 | [],j,hj,_=>by simp at hj
 | e::es,0,_,h=>by rw[LitEs] at h;exact h.1
 | e::es,j+1,hj,h=>by rw[LitEs] at h;exact LitEs_at es j (by simpa using hj) h.2
def Fine (v:PV):Prop:=okV v∧wtV v≤600
def FineS (s:Env):Prop:=∀x∈s,Fine x.2
theorem wrap64_in (z:Int):In64 (wrap64 z):=by unfold In64 wrap64;omega
theorem FineS.of {s:Env}(h:FineS s){n:List UInt8}{v:PV}(e:envOf s n=some v):Fine v:=by
 unfold envOf at e
 cases g:s.find? (fun x=>x.1==n) with
 | none=>rw[g] at e;cases e
 | some x=>rw[g] at e;cases e;exact h x (List.mem_of_find?_eq_some g)
theorem FineS.cons {s:Env}(h:FineS s){n:List UInt8}{v:PV}(hv:Fine v):FineS ((n,v)::s):=by
 intro x hx
 rcases List.mem_cons.1 hx with rfl | hx
 ·exact hv
 ·exact h x hx
theorem FineS.par {f:Fn}{vs:List PV}(h:∀v∈vs,Fine v):FineS (parEnv f vs):=by
 intro x hx
 unfold parEnv at hx
 rw[List.mem_reverse] at hx
 exact h _ (List.of_mem_zip hx).2
theorem bitV_fine (b:Bool):Fine (bitV b):=by
 unfold bitV Fine
 rw[okV,wtV]
 unfold In64
 cases b<;>simp
theorem lightV_some {o:Option PV}{v:PV}(h:lightV o=some v):o=some v∧wtV v≤600:=by
 cases o with
 | none=>cases h
 | some u =>
  simp only[lightV] at h
  split at h
  ·rename_i g;cases h;exact⟨rfl,g⟩
  ·cases h
theorem lightL_some {o:Option (List PV×Nat)}{v:PV}{k:Nat}(h:lightL o=some (v,k)):∃us,o=some (us,k)∧v=.lst us∧wtV (.lst us)≤600:=by
 match o with
 | none=>cases h
 | some (us,k') =>
  simp only[lightL] at h
  split at h
  ·rename_i g;cases h;exact⟨us,rfl,rfl,g⟩
  ·cases h
theorem okVs_all:∀{l:List PV},(∀v∈l,okV v)→okVs l
 | [],_=>by rw[okVs];trivial
 | v::r,h=>by rw[okVs];exact⟨h v (by simp),okVs_all fun u hu=>h u (by simp[hu])⟩
theorem okVs_mem:∀{l:List PV},okVs l→∀v∈l,okV v
 | [],_,v,hv=>by simp at hv
 | u::r,h,v,hv=>by
  rw[okVs] at h
  rcases List.mem_cons.1 hv with rfl | hv
  ·exact h.1
  ·exact okVs_mem h.2 v hv
theorem wtVs_mem:∀{l:List PV} {v:PV},v∈l→wtV v≤wtVs l
 | [],v,hv=>by simp at hv
 | u::r,v,hv=>by
  rw[wtVs]
  rcases List.mem_cons.1 hv with rfl | hv
  ·omega
  ·have:=wtVs_mem hv;omega
theorem Fine.item {l:List PV}(h:Fine (.lst l)){v:PV}(hv:v∈l):Fine v:=by
 obtain⟨h1,h2⟩:=h
 rw[okV] at h1
 rw[wtV] at h2
 have:=wtVs_mem hv
 exact⟨okVs_mem h1 v hv,by omega⟩
theorem simpleV_ok {wd:List UInt8}{vs:List PV}{v:PV}(h:simpleV wd vs=some v)(hv:∀u∈vs,Fine u):okV v:=by
 match vs,h,hv with
 | [a],h,hv =>
  have ha:=hv a (by simp)
  cases a with
  | num z=>cases h
  | txt b =>
   cases h
   have:=ha.2
   rw[wtV] at this
   rw[okV];unfold In64;omega
  | lst l =>
   cases h
   have:=ha.2
   rw[wtV] at this
   have:=wtVs_len l
   rw[okV];unfold In64;omega
 | [a,b],h,hv =>
  have ha:=hv a (by simp)
  have hb:=hv b (by simp)
  simp only[simpleV,op2] at h
  split at h
  ·cases h;exact (bitV_fine _).1
  split at h
  ·cases a with
   | num z=>cases h
   | txt z=>cases h
   | lst l =>
    cases b with
    | num i =>
     simp only[atV] at h
     split at h
     ·exact (ha.item (List.mem_of_getElem? h)).1
     ·cases h
    | txt z=>cases h
    | lst z=>cases h
  split at h
  ·cases a with
   | num z=>cases h
   | txt x =>
    cases b with
    | num i=>cases h
    | txt y=>cases h;rw[okV];trivial
    | lst z=>cases h
   | lst x =>
    cases b with
    | num i=>cases h
    | txt y=>cases h
    | lst y =>
     cases h
     have h1:=ha.1
     have h2:=hb.1
     rw[okV] at h1 h2 ⊢
     exact okVs_append h1 h2
  ·cases a with
   | num x =>
    cases b with
    | num y =>
     cases h
     unfold numOp
     repeat' split
     all_goals first | exact (bitV_fine _).1 | (rw[okV];exact wrap64_in _)
    | txt y=>cases h
    | lst y=>cases h
   | txt x=>cases h
   | lst x=>cases h
 | [a,b,c],h,hv =>
  have ha:=hv a (by simp)
  have hc:=hv c (by simp)
  cases a with
  | num x=>cases h
  | txt x=>cases h
  | lst l =>
   cases b with
   | txt y=>cases h
   | lst y=>cases h
   | num i =>
    simp only[simpleV,set3,setV] at h
    split at h
    ·cases h
     rw[okV]
     have h1:=ha.1
     rw[okV] at h1
     refine okVs_all fun u hu=>?_
     rcases List.mem_or_eq_of_mem_set hu with g | rfl
     ·exact okVs_mem h1 u g
     ·exact hc.1
    ·cases h
 | [],h,_=>cases h
 | _::_::_::_::_,h,_=>cases h
def GoodE (E:Nat→Env→Ex→Option (PV×Nat)):Prop:=∀k s e v k',FineS s→LitE e→E k s e=some (v,k')→Fine v∧k'≤k
theorem evL_good {E:Nat→Env→Ex→Option (PV×Nat)}(hE:GoodE E){s:Env}(hs:FineS s):∀(es:List Ex) (k:Nat) (vs:List PV) (k':Nat),LitEs es→evL (fun k e=>E k s e) k es=some (vs,k')→(∀v∈vs,Fine v)∧vs.length=es.length∧k'≤k
 | [],k,vs,k',_,h=>by cases h;exact⟨fun v hv=>by simp at hv,rfl,Nat.le_refl _⟩
 | e::es,k,vs,k',hl,h=>by
  rw[LitEs] at hl
  simp only[evL] at h
  split at h
  ·cases h
  ·rename_i v k1 h1
   split at h
   ·cases h
   ·rename_i us k2 h2
    cases h
    obtain⟨g1,g2⟩:=hE k s e v k1 hs hl.1 h1
    obtain⟨g3,g4,g5⟩:=evL_good hE hs es k1 us k' hl.2 h2
    refine⟨fun u hu=>?_,by simp[g4],by omega⟩
    rcases List.mem_cons.1 hu with rfl | hu
    ·exact g1
    ·exact g3 u hu
theorem evC_good {E:Nat→Env→Ex→Option (PV×Nat)}(hE:GoodE E){fns:List Fn}(hf:∀f∈fns,LitE f.body){k:Nat}{n:List UInt8}{vs:List PV}{v:PV}{k':Nat}(hv:∀u∈vs,Fine u)(h:evC E fns k n vs=some (v,k')):Fine v∧k'≤k:=by
 unfold evC at h
 split at h
 ·cases h
 ·rename_i f g
  exact hE k _ _ v k' (FineS.par hv) (hf f (List.mem_of_find?_eq_some g)) h
theorem evM_good {C:Nat→PV→Option (PV×Nat)}(hC:∀k u v k',Fine u→C k u=some (v,k')→Fine v∧k'≤k):∀(l:List PV) (k:Nat) (us:List PV) (k':Nat),(∀v∈l,Fine v)→evM C k l=some (us,k')→(∀v∈us,Fine v)∧us.length=l.length∧k'≤k
 | [],k,us,k',_,h=>by cases h;exact⟨fun v hv=>by simp at hv,rfl,Nat.le_refl _⟩
 | u::r,k,us,k',hl,h=>by
  simp only[evM] at h
  split at h
  ·cases h
  ·rename_i v k1 h1
   split at h
   ·cases h
   ·rename_i ws k2 h2
    cases h
    obtain⟨g1,g2⟩:=hC k u v k1 (hl u (by simp)) h1
    obtain⟨g3,g4,g5⟩:=evM_good hC r k1 ws k' (fun x hx=>hl x (by simp[hx])) h2
    refine⟨fun x hx=>?_,by simp[g4],by omega⟩
    rcases List.mem_cons.1 hx with rfl | hx
    ·exact g1
    ·exact g3 x hx
theorem evF_good {E:Nat→Env→Ex→Option (PV×Nat)}(hE:GoodE E){fns:List Fn}(hf:∀f∈fns,LitE f.body){k:Nat}{wd n:List UInt8}{vs:List PV}{v:PV}{k':Nat}(hv:∀u∈vs,Fine u)(h:evF E fns k wd n vs=some (v,k')):Fine v∧k'≤k:=by
 unfold evF at h
 split at h
 ·obtain⟨us,h1,rfl,h3⟩:=lightL_some h
  cases h1
  exact⟨⟨by rw[okV];exact okVs_all fun u hu=>(hv u hu).1,h3⟩,Nat.le_refl _⟩
 split at h
 ·exact evC_good hE hf hv h
 split at h
 ·split at h
  ·rename_i l
   obtain⟨us,h1,rfl,h3⟩:=lightL_some h
   have hl:=hv (.lst l) (by simp)
   obtain⟨g1,_,g3⟩:=evM_good (fun k u v k' hu he=>evC_good hE hf (vs:=[u]) (by intro x hx;simp at hx;subst hx;exact hu) he) l k us k' (fun x hx=>hl.item hx) h1
   exact⟨⟨by rw[okV];exact okVs_all fun u hu=>(g1 u hu).1,h3⟩,g3⟩
  ·cases h
 ·cases g:lightV (simpleV wd vs) with
  | none=>rw[g] at h;cases h
  | some u =>
   rw[g] at h
   cases h
   obtain⟨h1,h2⟩:=lightV_some g
   exact⟨⟨simpleV_ok h1 hv,h2⟩,Nat.le_refl _⟩
theorem evX_good {E:Nat→Env→Ex→Option (PV×Nat)}(hE:GoodE E){fns:List Fn}(hf:∀f∈fns,LitE f.body){k:Nat}{s:Env}{e:Ex}{v:PV}{k':Nat}(hs:FineS s)(he:LitE e)(h:evX E fns k s e=some (v,k')):Fine v∧k'≤k:=by
 cases e with
 | num b =>
  cases h
  rw[LitE] at he
  exact⟨⟨by rw[okV];exact he.in64,by rw[wtV];omega⟩,Nat.le_refl _⟩
 | txt b =>
  cases h
  rw[LitE] at he
  exact⟨⟨by rw[okV];trivial,by rw[wtV];omega⟩,Nat.le_refl _⟩
 | var n a =>
  simp only[evX] at h
  cases g:envOf s n with
  | none=>rw[g] at h;cases h
  | some u=>rw[g] at h;cases h;exact⟨hs.of g,Nat.le_refl _⟩
 | form wd n a ks =>
  rw[LitE] at he
  simp only[evX] at h
  split at h
  ·match ks,h,he with
   | [c,t,x],h,he =>
    rw[LitEs,LitEs,LitEs] at he
    simp only[evIf] at h
    split at h
    ·rename_i z k1 h1
     obtain⟨_,g2⟩:=hE k s c _ k1 hs he.1 h1
     split at h
     ·obtain⟨g3,g4⟩:=hE k1 s x v k' hs he.2.2.1 h
      exact⟨g3,by omega⟩
     ·obtain⟨g3,g4⟩:=hE k1 s t v k' hs he.2.1 h
      exact⟨g3,by omega⟩
    ·cases h
   | [],h,_=>cases h
   | [_],h,_=>cases h
   | [_,_],h,_=>cases h
   | _::_::_::_::_,h,_=>cases h
  split at h
  ·match ks,h,he with
   | [x,b],h,he =>
    rw[LitEs,LitEs] at he
    simp only[evLet] at h
    split at h
    ·rename_i u k1 h1
     obtain⟨g1,g2⟩:=hE k s x u k1 hs he.1 h1
     obtain⟨g3,g4⟩:=hE k1 _ b v k' (hs.cons g1) he.2.1 h
     exact⟨g3,by omega⟩
    ·cases h
   | [],h,_=>cases h
   | [_],h,_=>cases h
   | _::_::_::_,h,_=>cases h
  ·split at h
   ·cases h
   ·rename_i vs k1 h1
    obtain⟨g1,_,g3⟩:=evL_good hE hs ks k vs k1 he h1
    obtain⟨g4,g5⟩:=evF_good hE hf g1 h
    exact⟨g4,by omega⟩
theorem evE_good {fns:List Fn}(hf:∀f∈fns,LitE f.body):∀f,GoodE (evE fns f)
 | 0,k,s,e,v,k',_,_,h=>by cases h
 | f+1,0,s,e,v,k',_,_,h=>by cases h
 | f+1,k+1,s,e,v,k',hs,he,h=>by
  obtain⟨g1,g2⟩:=evX_good (evE_good hf f) hf hs he h
  exact⟨g1,by omega⟩
end Go.Proofs.YtifhgjpglicjbaaGreatDoor
namespace Go.Proofs.YtifhgjpglicjbaaGreatDoor
def FnOf (fns:List Fn)(n:List UInt8)(k:Nat):Prop:=∃f,fns.find? (fun f=>f.name==n)=some f∧f.params.length=k
mutual
def ScE (fns:List Fn)(sc:List (List UInt8)):Ex→Prop
 | .num _=>True
 | .txt _=>True
 | .var n _=>n∈sc
 | .form w n _ ks=>((w=[99,97,108,108]∨w=[109,97,112])→FnOf fns n ks.length)∧(w=[108,101,116]→ScLet fns sc n ks)∧(w≠[108,101,116]→ScEs fns sc ks)
def ScEs (fns:List Fn)(sc:List (List UInt8)):List Ex→Prop
 | []=>True
 | e::es=>ScE fns sc e∧ScEs fns sc es
def ScLet (fns:List Fn)(sc:List (List UInt8))(n:List UInt8):List Ex→Prop
 | []=>True
 | e::es=>ScE fns sc e∧ScEs fns (n::sc) es
end
theorem orE_no {a b:Option (Nat×Nat)}(h:orE a b=none):a=none∧b=none:=by
 cases a with
 | none=>exact⟨rfl,h⟩
 | some x=>cases h
mutual
theorem nmE_sc {fns:List Fn}{fs:List (List UInt8×Nat)}(hfs:∀n k,lookF fs n=some k→FnOf fns n k):∀(e:Ex) (scope sc:List (List UInt8)),(∀n∈scope,n∈sc)→nmE fs scope e=none→ScE fns sc e
 | .num _,_,_,_,_=>by rw[ScE];trivial
 | .txt _,_,_,_,_=>by rw[ScE];trivial
 | .var n a,scope,sc,hs,h=>by
  rw[nmE] at h
  rw[ScE]
  split at h
  ·rename_i hc
   exact hs n (by simpa using hc)
  ·cases h
 | .form w n a ks,scope,sc,hs,h=>by
  rw[nmE] at h
  rw[ScE]
  by_cases hc:w=[99,97,108,108]∨w=[109,97,112]
  ·have hb:(w==[99,97,108,108] || w==[109,97,112])=true:=by simpa using hc
   rw[if_pos hb] at h
   obtain⟨h1,h2⟩:=orE_no h
   refine⟨fun _=>?_,fun hl=>?_,fun _=>nmEs_sc hfs ks scope sc hs h2⟩
   ·unfold callErr at h1
    split at h1
    ·cases h1
    ·rename_i k hk
     split at h1
     ·rename_i e;subst e;exact hfs n _ hk
     ·cases h1
   ·rcases hc with hc | hc<;>(rw[hc] at hl;exact absurd hl (by decide))
  ·have hb:¬ (w==[99,97,108,108] || w==[109,97,112])=true:=by simpa using hc
   rw[if_neg hb] at h
   refine⟨fun g=>absurd g hc,fun hl=>?_,fun hl=>?_⟩
   ·rw[if_pos (by simpa using hl)] at h
    cases ks with
    | nil=>rw[ScLet];trivial
    | cons x r =>
     rw[nmLet] at h
     obtain⟨h1,h2⟩:=orE_no h
     rw[ScLet]
     refine⟨nmE_sc hfs x scope sc hs h1,nmEs_sc hfs r (scope++[n]) (n::sc) (fun m hm=>?_) h2⟩
     rcases List.mem_append.1 hm with hm | hm
     ·exact List.mem_cons_of_mem _ (hs m hm)
     ·simp at hm;subst hm;simp
   ·rw[if_neg (by simpa using hl)] at h
    exact nmEs_sc hfs ks scope sc hs h
theorem nmEs_sc {fns:List Fn}{fs:List (List UInt8×Nat)}(hfs:∀n k,lookF fs n=some k→FnOf fns n k):∀(es:List Ex) (scope sc:List (List UInt8)),(∀n∈scope,n∈sc)→nmEs fs scope es=none→ScEs fns sc es
 | [],_,_,_,_=>by rw[ScEs];trivial
 | e::es,scope,sc,hs,h=>by
  rw[nmEs] at h
  obtain⟨h1,h2⟩:=orE_no h
  rw[ScEs]
  exact⟨nmE_sc hfs e scope sc hs h1,nmEs_sc hfs es scope sc hs h2⟩
end
theorem look_find:∀(p:List Fn) (n:List UInt8) (k:Nat),lookF (p.map sigOf) n=some k→FnOf p n k
 | [],n,k,h=>by simp[lookF] at h
 | f::p,n,k,h=>by
  simp only[lookF,List.map_cons,List.find?_cons] at h
  cases hb:(sigOf f).1==n with
  | true =>
   rw[hb] at h
   simp at h
   have hb2:(f.name==n)=true:=hb
   exact⟨f,by simp only[List.find?_cons,hb2],h⟩
  | false =>
   rw[hb] at h
   obtain⟨g,h1,h2⟩:=look_find p n k h
   have hb2:(f.name==n)=false:=hb
   exact⟨g,by simp only[List.find?_cons,hb2,h1],h2⟩
theorem FnOf.append {p:List Fn}{n:List UInt8}{k:Nat}(h:FnOf p n k)(q:List Fn):FnOf (p++q) n k:=by
 obtain⟨f,h1,h2⟩:=h
 exact⟨f,by rw[List.find?_append,h1];rfl,h2⟩
theorem nmAll_sc:∀(q p fns:List Fn),fns=p++q→nmAll (p.map sigOf) q=none→∀f∈q,ScE fns (f.params.map (·.1)) f.body
 | [],p,fns,_,_,f,hf=>by simp at hf
 | x::q,p,fns,hfn,h,f,hf=>by
  simp only[nmAll] at h
  split at h
  ·cases h
  ·rename_i hx
   rcases List.mem_cons.1 hf with rfl | hf
   ·unfold nmFn at hx
    split at hx
    ·cases hx
    ·split at hx
     ·cases hx
     ·exact nmE_sc (fun n k hk=>by rw[hfn];exact (look_find p n k hk).append _) _ _ _ (fun n hn=>hn) hx
   ·exact nmAll_sc q (p++[x]) fns (by rw[hfn];simp) (by rw[List.map_append];exact h) f hf
theorem ScEs_at {fns:List Fn}{sc:List (List UInt8)}:∀(es:List Ex) (j:Nat) (hj:j<es.length),ScEs fns sc es→ScE fns sc es[j]
 | [],j,hj,_=>by simp at hj
 | e::es,0,_,h=>by rw[ScEs] at h;exact h.1
 | e::es,j+1,hj,h=>by rw[ScEs] at h;exact ScEs_at es j (by simpa using hj) h.2
structure ProgOk (fns:List Fn):Prop where
 lit:∀f∈fns,LitE f.body
 wf:∀f∈fns,WfE f.body
 sc:∀f∈fns,ScE fns (f.params.map (·.1)) f.body
 sz:∀f∈fns,f.params.length+szE f.body≤7000
theorem envOf_some {s:Env}{n:List UInt8}(h:n∈s.map (·.1)):∃v,envOf s n=some v:=by
 unfold envOf
 cases g:s.find? (fun x=>x.1==n) with
 | some x=>exact⟨x.2,rfl⟩
 | none =>
  rw[List.find?_eq_none] at g
  obtain⟨x,hx,e⟩:=List.mem_map.1 h
  exact absurd (by simpa using e) (g x hx)
theorem parEnv_names {f:Fn}{vs:List PV}(h:f.params.length=vs.length):∀n,n∈f.params.map (·.1)→n∈(parEnv f vs).map (·.1):=by
 intro n hn
 unfold parEnv
 rw[List.map_reverse,List.mem_reverse,List.map_fst_zip (by simp;omega)]
 exact hn
theorem LitEs_mem {es:List Ex}(h:LitEs es):∀e∈es,LitE e:=fun e he=>by
 obtain⟨j,hj,rfl⟩:=List.getElem_of_mem he
 exact LitEs_at es j hj h
theorem WfEs_mem:∀{es:List Ex},WfEs es→∀e∈es,WfE e
 | [],_,e,he=>by cases he
 | x::es,h,e,he=>by
  rw[WfEs] at h
  rcases List.mem_cons.1 he with rfl | he
  ·exact h.1
  ·exact WfEs_mem h.2 e he
theorem ScEs_mem {fns:List Fn}{sc:List (List UInt8)}{es:List Ex}(h:ScEs fns sc es):∀e∈es,ScE fns sc e:=fun e he=>by
 obtain⟨j,hj,rfl⟩:=List.getElem_of_mem he
 exact ScEs_at es j hj h
theorem szEs_mem {es:List Ex}{e:Ex}(he:e∈es):szE e+1≤szEs es:=by
 obtain⟨j,hj,rfl⟩:=List.getElem_of_mem he
 exact szEs_at es j hj
theorem shape_len {wd:List UInt8}{ks:List Ex}{b:Bool}{n:Nat}(h:∃b m,shapeL wd=some (b,m)∧(0≤m→(ks.length:Int)=m))(e:shapeL wd=some (b,(n:Int))):ks.length=n:=by
 obtain⟨b',m,h1,h2⟩:=h
 rw[e] at h1
 simp only[Option.some.injEq,Prod.mk.injEq] at h1
 have:=h2 (by omega)
 omega
def TokLit (t:Tok):Prop:=(t.k=.num→NumT t.body)∧(t.k=.txt→(innerL t.body).length≤20)
theorem runL_take (p:UInt8→Bool):∀(l:List UInt8),∀c∈l.take (runL p l),p c=true
 | [],c,hc=>by simp at hc
 | a::l,c,hc=>by
  cases h:p a with
  | false=>rw[runL_cons_false p a l h] at hc;simp at hc
  | true =>
   rw[runL_cons_true p a l h] at hc
   rw[List.take_succ_cons] at hc
   rcases List.mem_cons.1 hc with rfl | hc
   ·exact h
   ·exact runL_take p l c hc
theorem numL_T {l:List UInt8}{n:Nat}(h:numL l=some n):NumT (l.take n):=by
 unfold numL at h
 split at h
 ·cases h
 ·rename_i hh
  simp only[Option.some.injEq] at h
  have h1:=runL_le digit (unsignL l)
  refine⟨(unsignL l).take (runL digit (unsignL l)),?_,by rw[List.length_take];omega,by rw[List.length_take];omega,runL_take digit _⟩
  subst h
  unfold unsignL
  split
  ·rename_i g
   right
   have e:=starts_cons g
   have e2:l.length-(l.drop 1).length+runL digit (l.drop 1)=runL digit (l.drop 1)+1:=by
    have:=congrArg List.length e
    simp at this
    simp
    omega
   rw[e2]
   conv=>lhs;rw[e]
   rw[List.take_succ_cons]
   rfl
  ·left
   simp
theorem measureL_num {l:List UInt8}(h:(measureL l).1=.num):NumT (l.take (measureL l).2):=by
 cases l with
 | nil=>simp[measureL] at h
 | cons c r =>
  simp only[measureL] at h ⊢
  split at h
  ·cases h
  split at h
  ·cases h
  split at h
  ·cases g:textL (c::r) with
   | none=>simp[g,kindOf] at h
   | some n=>simp[g,kindOf] at h
  split at h
  ·rename_i a1 a2 a3 a4
   cases g:numL (c::r) with
   | none=>simp[g,kindOf] at h
   | some n =>
    simp only[a1,a2,a3,a4,if_true,if_false,Bool.false_eq_true,kindOf]
    exact numL_T g
  split at h
  ·cases g:wordL (c::r) with
   | none=>simp[g,kindOf] at h
   | some n=>simp[g,kindOf] at h
  ·cases h
theorem measureL_text {l:List UInt8}(h:(measureL l).1=.txt):(measureL l).2≤22:=by
 cases l with
 | nil=>simp[measureL] at h
 | cons c r =>
  simp only[measureL] at h ⊢
  split at h
  ·cases h
  split at h
  ·cases h
  split at h
  ·rename_i a1 a2 a3
   cases g:textL (c::r) with
   | none=>simp[g,kindOf] at h
   | some n =>
    simp only[a1,a2,a3,if_true,if_false,Bool.false_eq_true,kindOf]
    unfold textL at g
    split at g
    ·cases g
    ·simp only[Option.some.injEq] at g
     omega
  split at h
  ·cases g:numL (c::r) with
   | none=>simp[g,kindOf] at h
   | some n=>simp[g,kindOf] at h
  split at h
  ·cases g:wordL (c::r) with
   | none=>simp[g,kindOf] at h
   | some n=>simp[g,kindOf] at h
  ·cases h
theorem nextTok_lit (s:List UInt8)(p:Nat):TokLit (nextTok s p):=by
 refine⟨fun h=>?_,fun h=>?_⟩
 ·exact measureL_num (l:=s.drop (p+runL blank (s.drop p))) h
 ·have:=measureL_text (l:=s.drop (p+runL blank (s.drop p))) h
  simp only[nextTok,innerL,List.length_take,List.length_drop]
  omega
theorem isToks_lit {s:List UInt8}:∀{p:Nat} {ts:List Tok},IsToks s p ts→∀t∈ts,TokLit t:=by
 intro p ts h
 induction h with
 | last _=>intro t ht;simp at ht;subst ht;exact nextTok_lit _ _
 | more _ _ _ ih =>
  intro t ht
  rcases List.mem_cons.1 ht with rfl | ht
  ·exact nextTok_lit _ _
  ·exact ih t ht
abbrev Lits (ts:List Tok):Prop:=∀t∈ts,TokLit t
theorem pF_lit {L:Nat→Int→List Tok→Res (List Ex)}(hL:∀d m ts es r,Lits ts→L d m ts=.ok es r→LitEs es∧Lits r){d:Nat}{ts:List Tok}{e:Ex}{r:List Tok}(ht:Lits ts)(h:pF L d ts=.ok e r):LitE e∧Lits r:=by
 cases ts with
 | nil=>cases h
 | cons t ts =>
  have ht2:Lits ts:=fun x hx=>ht x (by simp[hx])
  simp only[pF] at h
  split at h
  ·cases h
  ·rename_i n hn
   cases g:L d n ts with
   | err c a=>rw[g] at h;cases h
   | ok ks r' =>
    rw[g] at h
    cases h
    rw[LitE]
    exact hL _ _ _ _ _ ht2 g
  ·rename_i n hn
   cases ts with
   | nil=>cases h
   | cons u us =>
    have ht3:Lits us:=fun x hx=>ht2 x (by simp[hx])
    simp only at h
    split at h
    ·cases g:L d n us with
     | err c a=>rw[g] at h;cases h
     | ok ks r' =>
      rw[g] at h
      cases h
      rw[LitE]
      exact hL _ _ _ _ _ ht3 g
    ·cases h
theorem pE_lit {L:Nat→Int→List Tok→Res (List Ex)}(hL:∀d m ts es r,Lits ts→L d m ts=.ok es r→LitEs es∧Lits r){d:Nat}{ts:List Tok}{e:Ex}{r:List Tok}(ht:Lits ts)(h:pE L d ts=.ok e r):LitE e∧Lits r:=by
 cases ts with
 | nil=>cases h
 | cons t ts =>
  have ht1:=ht t (by simp)
  have ht2:Lits ts:=fun x hx=>ht x (by simp[hx])
  simp only[pE] at h
  split at h
  ·rename_i hk;cases h;rw[LitE];exact⟨ht1.1 hk,ht2⟩
  ·rename_i hk;cases h;rw[LitE];exact⟨ht1.2 hk,ht2⟩
  ·split at h
   ·cases h
   ·cases h;rw[LitE];exact⟨trivial,ht2⟩
  ·split at h
   ·cases h
   ·exact pF_lit hL ht2 h
  ·cases h
theorem pL_lit:∀(f d:Nat) (m:Int) (ts:List Tok) (es:List Ex) (r:List Tok),Lits ts→pL f d m ts=.ok es r→LitEs es∧Lits r
 | 0,_,_,_,_,_,_,h=>by cases h
 | f+1,_,_,[],_,_,_,h=>by cases h
 | f+1,d,m,t::ts,es,r,ht,h=>by
  simp only[pL] at h
  split at h
  ·split at h
   ·cases h
    exact⟨by rw[LitEs];trivial,fun x hx=>ht x (by simp[hx])⟩
   ·cases h
  ·cases g:pE (pL f) d (t::ts) with
   | err c a=>rw[g] at h;cases h
   | ok e r' =>
    rw[g] at h
    obtain⟨h1,h2⟩:=pE_lit (fun d m ts es r=>pL_lit f d m ts es r) ht g
    cases g2:pL f d (if m<0 then m else m-1) r' with
    | err c a=>simp only[g2,consR] at h;cases h
    | ok es' r'' =>
     simp only[g2,consR] at h
     cases h
     obtain⟨h3,h4⟩:=pL_lit f _ _ _ _ _ h2 g2
     exact⟨by rw[LitEs];exact⟨h1,h3⟩,h4⟩
theorem pP_lit:∀(ts:List Tok) (ns:List (List UInt8×Nat)) (r:List Tok),Lits ts→pP ts=.ok ns r→Lits r
 | [],_,_,_,h=>by cases h
 | t::ts,ns,r,ht,h=>by
  have ht2:Lits ts:=fun x hx=>ht x (by simp[hx])
  simp only[pP] at h
  split at h
  ·cases h;exact ht2
  ·split at h
   ·cases g:pP ts with
    | err c a=>simp only[g,consN] at h;cases h
    | ok ns' r' =>
     simp only[g,consN] at h
     cases h
     exact pP_lit ts _ _ ht2 g
   ·cases h
theorem pFun_lit {G:Nat}{ts:List Tok}{fn:Fn}{r:List Tok}(ht:Lits ts)(h:pFun G ts=.ok fn r):LitE fn.body∧Lits r:=by
 match ts,h,ht with
 | t::u::n::o::ts,h,ht =>
  have ht2:Lits ts:=fun x hx=>ht x (by simp[hx])
  simp only[pFun] at h
  split at h
  ·cases h
  split at h
  ·cases h
  split at h
  ·cases h
  split at h
  ·cases h
  cases e:pP ts with
  | err c a=>rw[e] at h;cases h
  | ok ns r1 =>
   rw[e] at h
   simp only[paramsR] at h
   cases e2:pL G 1 1 r1 with
   | err c a=>rw[e2] at h;cases h
   | ok es r2 =>
    rw[e2] at h
    obtain⟨h2,h3⟩:=pL_lit _ _ _ _ _ _ (pP_lit _ _ _ ht2 e) e2
    cases es with
    | nil=>cases h
    | cons b l =>
     cases h
     rw[LitEs] at h2
     exact⟨h2.1,h3⟩
 | [t,u,n],h,_ =>
  simp only[pFun] at h
  split at h
  ·cases h
  split at h<;>cases h
 | [t,u],h,_ =>
  simp only[pFun] at h
  split at h<;>cases h
 | [t],h,_=>cases h
 | [],h,_=>cases h
theorem pProg_lit:∀(f:Nat) (ts:List Tok) (fns:List Fn) (r:List Tok),Lits ts→pProg f ts=.ok fns r→∀fn∈fns,LitE fn.body∧WfE fn.body
 | 0,_,_,_,_,h=>by cases h
 | f+1,[],_,_,_,h=>by cases h
 | f+1,t::ts,fns,r,ht,h=>by
  simp only[pProg] at h
  split at h
  ·cases h;intro fn hfn;simp at hfn
  ·cases g:pFun (f+1) (t::ts) with
   | err c a=>rw[g] at h;cases h
   | ok fn r' =>
    rw[g] at h
    obtain⟨h1,h2⟩:=pFun_lit ht g
    have h5:=pFun_wf g
    cases g2:pProg f r' with
    | err c a=>simp only[g2,consF] at h;cases h
    | ok fs r'' =>
     simp only[g2,consF] at h
     cases h
     intro x hx
     rcases List.mem_cons.1 hx with rfl | hx
     ·exact⟨h1,h5⟩
     ·exact pProg_lit f r' fs r h2 g2 x hx
theorem progOk_of {s:List UInt8}{ts:List Tok}(hts:IsToks s 0 ts)(hs:s.length≤2000){fns:List Fn}{rest:List Tok}{n f:Nat}(h:pProg f ts=.ok fns rest)(hc:chk n (.ok fns rest)=none):ProgOk fns:=by
 have hlen:=hts.len (Nat.zero_le _)
 have hnm:nmAll [] fns=none:=by
  simp only[chk] at hc
  split at hc
  ·cases hc
  ·assumption
 have hl:=fun fn hf=>pProg_lit f ts fns rest (isToks_lit hts) h fn hf
 refine⟨fun fn hf=>(hl fn hf).1,fun fn hf=>(hl fn hf).2,nmAll_sc fns [] fns rfl hnm,fun fn hf=>?_⟩
 have:=((pProg_sz f ts fns rest h).2 fn hf).1
 omega
end Go.Proofs.YtifhgjpglicjbaaGreatDoor
