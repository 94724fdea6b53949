/-
  Values, plainly: what they weigh, how they are written, when two are the same, what a text is read as. No model in it.
-/
import Derived.Test.YtliapghpeoaonaaGreatDoorPure
import Derived.Lib.ItoaNum
import Derived.Lib.ItoaLen
import Derived.RowKit
namespace Go.Proofs.YtliapghpeoaonaaGreatDoor
open Go.Lib
def Zam (l:List UInt8):Int:=l.foldl (fun n c=>10*n+((c.toNat:Int)-48)) 0
def Zbb (l:List UInt8):Int:=if Zad 45 l then-Zam (l.drop 1) else Zam l
inductive PV where
 | num (z:Int)
 | txt (b:List UInt8)
 | lst (l:List PV)
mutual
def wtV:PV→Nat
 | .num _=>1
 | .txt b=>1+b.length
 | .lst l=>1+Zbh l
def Zbh:List PV→Nat
 | []=>0
 | v::r=>wtV v+Zbh r
end
mutual
def wrV:PV→List UInt8
 | .num z=>itoa z
 | .txt b=>39::(b++[39])
 | .lst l=>40::(Zgm l++[41])
def Zgm:List PV→List UInt8
 | []=>[]
 | v::r=>wrV v++wrT r
def wrT:List PV→List UInt8
 | []=>[]
 | v::r=>32::(wrV v++wrT r)
end
mutual
def Zcl:PV→PV→Bool
 | .num a,.num b=>a==b
 | .txt a,.txt b=>a==b
 | .lst a,.lst b=>Zch a b
 | _,_=>false
def Zch:List PV→List PV→Bool
 | [],[]=>true
 | a::r,b::s=>Zcl a b&&Zch r s
 | _,_=>false
end
def Zih (z:Int):Prop:=-9223372036854775808≤z∧z≤9223372036854775807
instance (z:Int):Decidable (Zih z):=inferInstanceAs (Decidable (_∧_))
mutual
def okV:PV→Prop
 | .num z=>Zih z
 | .txt _=>True
 | .lst l=>Zha l
def Zha:List PV→Prop
 | []=>True
 | v::r=>okV v∧Zha r
end
theorem Zf1:∀v:PV,1≤wtV v
 | .num _=>by rw[wtV];omega
 | .txt _=>by rw[wtV];omega
 | .lst _=>by rw[wtV];omega
theorem Zdd:∀l:List PV,l.length≤Zbh l
 | []=>by simp
 | v::r=>by rw[Zbh];have:=Zdd r;have:=Zf1 v;simp;omega
theorem Zgp:∀a b:List PV,Zbh (a++b)=Zbh a+Zbh b
 | [],b=>by simp[Zbh]
 | v::r,b=>by rw[List.cons_append,Zbh,Zbh,Zgp r b];omega
theorem Zz0 (a:List PV)(v:PV):Zbh (a++[v])=Zbh a+wtV v:=by rw[Zgp,Zbh,Zbh];omega
theorem Zix:∀(l:List PV) (j:Nat) (hj:j<l.length),wtV l[j]≤Zbh l
 | [],j,hj=>by simp at hj
 | v::r,0,_=>by rw[Zbh];simp
 | v::r,j+1,hj=>by rw[Zbh];have:=Zix r j (by simpa using hj);simp;omega
theorem Zi3:∀{a b:List PV},Zha a→Zha b→Zha (a++b)
 | [],b,_,h=>h
 | v::r,b,h1,h2=>by rw[Zha] at h1;rw[List.cons_append,Zha];exact⟨h1.1,Zi3 h1.2 h2⟩
theorem Zq8:∀{l:List PV} {j:Nat} (hj:j<l.length),Zha l→okV l[j]
 | [],j,hj,_=>by simp at hj
 | v::r,0,_,h=>by rw[Zha] at h;exact h.1
 | v::r,j+1,hj,h=>by rw[Zha] at h;exact Zq8 (l:=r) (by simpa using hj) h.2
theorem okVs_snoc {a:List PV}{v:PV}(h:Zha a)(hv:okV v):Zha (a++[v]):=Zi3 h (by rw[Zha,Zha];exact⟨hv,trivial⟩)
theorem Zkv:∀(a b:List PV),Zch a b=true→a.length=b.length
 | [],[],_=>rfl
 | [],_::_,h=>by simp[Zch] at h
 | _::_,[],h=>by simp[Zch] at h
 | a::r,b::s,h=>by
  rw[Zch,Bool.and_eq_true] at h
  simp[Zkv r s h.2]
theorem Znm (a b:List PV)(j:Nat)(ha:j<a.length)(hb:j<b.length):Zch (a.drop j) (b.drop j)=(Zcl a[j] b[j]&&Zch (a.drop (j+1)) (b.drop (j+1))):=by
 rw[List.drop_eq_getElem_cons ha,List.drop_eq_getElem_cons hb,Zch]
theorem Zpo (a b:List PV)(h:a.length=b.length):Zch (a.drop a.length) (b.drop a.length)=true:=by
 rw[List.drop_eq_nil_of_le (by omega),List.drop_eq_nil_of_le (by omega),Zch]
theorem Zv9:∀(a:List PV) (v:PV),wrT (a++[v])=wrT a++32::wrV v
 | [],v=>by simp[wrT]
 | u::r,v=>by rw[List.cons_append,wrT,wrT,Zv9 r v];simp
theorem Zm0 (a:List PV)(v:PV):Zgm (a++[v])=if a=[] then wrV v else Zgm a++32::wrV v:=by
 cases a with
 | nil=>simp[Zgm,wrT]
 | cons u r=>rw[List.cons_append,Zgm,Zgm,Zv9];simp
mutual
theorem Zkg:∀v:PV,okV v→(wrV v).length+1≤23*wtV v
 | .num z,h=>by rw[okV] at h;rw[wrV,wtV];have:=itoa_length_le z h.1 h.2;omega
 | .txt b,_=>by rw[wrV,wtV];simp;omega
 | .lst l,h=>by
  rw[okV] at h
  rw[wrV,wtV]
  cases l with
  | nil=>simp[Zgm,Zbh]
  | cons v r =>
   rw[Zha] at h
   have h1:=Zkg v h.1
   have h2:=Zuk r h.2
   rw[Zgm,Zbh]
   simp
   omega
theorem Zuk:∀l:List PV,Zha l→(wrT l).length≤23*Zbh l
 | [],_=>by simp[wrT]
 | v::r,h=>by
  rw[Zha] at h
  have h1:=Zkg v h.1
  have h2:=Zuk r h.2
  have:=Zf1 v
  rw[wrT,Zbh]
  simp
  omega
end
def Zfm (l:List UInt8):Option Int:=if itoa (Zbb l)=l∧Zih (Zbb l) then some (Zbb l) else none
def Zcd (l:List UInt8):Nat:=l.length-(Zaj l).length+Zbd Zav (Zaj l)
theorem Ztd (l:List UInt8):Zcd l≤l.length:=by
 have:=Zdb Zav (Zaj l)
 have:=Zki l
 unfold Zcd
 omega
mutual
def rdV:Nat→List UInt8→Option (PV×List UInt8)
 | 0,_=>none
 | f+1,l =>
  if Zad 40 l then match rdL f true (l.drop 1) with
   | none=>none
   | some (vs,r)=>some (.lst vs,r)
  else if Zad 39 l then
   (if Zad 39 ((l.drop 1).drop (Zbd Zc0 (l.drop 1))) then some (.txt ((l.drop 1).take (Zbd Zc0 (l.drop 1))),((l.drop 1).drop (Zbd Zc0 (l.drop 1))).drop 1) else none)
  else match Zfm (l.take (Zcd l)) with
   | none=>none
   | some z=>some (.num z,l.drop (Zcd l))
def rdL:Nat→Bool→List UInt8→Option (List PV×List UInt8)
 | 0,_,_=>none
 | f+1,first,l =>
  if Zad 41 l then some ([],l.drop 1)
  else if first=false∧Zad 32 l=false then none
  else match rdV f (if first then l else l.drop 1) with
   | none=>none
   | some (v,r)=>match rdL f false r with
    | none=>none
    | some (vs,r')=>some (v::vs,r')
end
theorem Zcg {c:UInt8}{l:List UInt8}(h:Zad c l=true):l=c::l.drop 1:=by
 cases l with
 | nil=>simp[Zad] at h
 | cons a r=>simp[Zad] at h;simp[h]
theorem Z17 (z:Int):itoa z≠[]:=by
 unfold itoa
 split
 ·simp
 ·rw[decDigits]
  split<;>simp
theorem Zkz {l:List UInt8}{z:Int}(h:Zfm l=some z):itoa z=l∧Zih z∧z=Zbb l:=by
 unfold Zfm at h
 split at h
 ·rename_i g
  cases h
  exact⟨g.1,g.2,rfl⟩
 ·cases h
mutual
theorem Zwl:∀(f:Nat) (l:List UInt8) (v:PV) (r:List UInt8),rdV f l=some (v,r)→l=wrV v++r∧okV v
 | 0,l,v,r,h=>by simp[rdV] at h
 | f+1,l,v,r,h=>by
  rw[rdV] at h
  split at h
  ·rename_i h1
   split at h
   ·cases h
   ·rename_i vs r' hL
    cases h
    obtain⟨e,o⟩:=Z0t f true (l.drop 1) vs r hL
    refine⟨?_,by rw[okV];exact o⟩
    rw[Zcg h1,e,wrV]
    simp
  ·split at h
   ·rename_i h1 h2
    split at h
    ·rename_i h3
     cases h
     refine⟨?_,by rw[okV];trivial⟩
     have e:=Zcg h3
     generalize Zbd Zc0 (l.drop 1)=n at *
     have e2:=Zcg h2
     generalize l.drop 1=q at *
     subst e2
     rw[wrV]
     have e4:q=q.take n++39::(q.drop n).drop 1:=by rw[←e,List.take_append_drop]
     simp only[List.cons_append,List.append_assoc,List.nil_append,List.cons.injEq,true_and]
     exact e4
    ·cases h
   ·split at h
    ·cases h
    ·rename_i z hz
     cases h
     obtain⟨e1,e2,_⟩:=Zkz hz
     refine⟨?_,by rw[okV];exact e2⟩
     rw[wrV,e1,List.take_append_drop]
theorem Z0t:∀(f:Nat) (b:Bool) (l:List UInt8) (vs:List PV) (r:List UInt8),rdL f b l=some (vs,r)→l=(if b then Zgm vs else wrT vs)++41::r∧Zha vs
 | 0,b,l,vs,r,h=>by simp[rdL] at h
 | f+1,b,l,vs,r,h=>by
  rw[rdL] at h
  split at h
  ·rename_i h1
   cases h
   refine⟨?_,by rw[Zha];trivial⟩
   have e:=Zcg h1
   cases b<;>simp[Zgm,wrT]<;>simpa using e
  ·split at h
   ·cases h
   ·rename_i h1 h2
    split at h
    ·cases h
    ·rename_i v r1 hv
     split at h
     ·cases h
     ·rename_i us r2 hL
      cases h
      obtain⟨e1,o1⟩:=Zwl f _ v r1 hv
      obtain⟨e2,o2⟩:=Z0t f false r1 us r hL
      refine⟨?_,by rw[Zha];exact⟨o1,o2⟩⟩
      cases b with
      | true =>
       simp only[if_true] at e1 ⊢
       rw[e1,e2,Zgm]
       simp
      | false =>
       have h3:Zad 32 l=true:=by
        cases hh:Zad 32 l with
        | true=>rfl
        | false=>exact absurd ⟨rfl,hh⟩ h2
       simp only[Bool.false_eq_true,if_false] at e1 e2 ⊢
       rw[Zcg h3,e1,e2,wrT]
       simp
end
theorem Zpt {f:Nat}{l:List UInt8}{v:PV}{r:List UInt8}(h:rdV f l=some (v,r)):r.length<l.length:=by
 obtain⟨e,_⟩:=Zwl f l v r h
 have:0<(wrV v).length:=by
  cases v with
  | num z=>rw[wrV];exact List.length_pos_iff.2 (Z17 z)
  | txt b=>rw[wrV];simp
  | lst l=>rw[wrV];simp
 rw[e]
 simp
 omega
theorem rdL_lt {f:Nat}{b:Bool}{l:List UInt8}{vs:List PV}{r:List UInt8}(h:rdL f b l=some (vs,r)):r.length<l.length:=by
 obtain⟨e,_⟩:=Z0t f b l vs r h
 rw[e]
 simp
 omega
mutual
theorem Zq1:∀(f g:Nat) (l:List UInt8),2*l.length+1≤f→2*l.length+1≤g→rdV f l=rdV g l
 | 0,g,l,h,_=>by omega
 | f+1,0,l,_,h=>by omega
 | f+1,g+1,l,hf,hg=>by
  rw[rdV,rdV]
  split
  ·rename_i h1
   have hl:(l.drop 1).length+1=l.length:=by rw[Zcg h1];simp
   rw[Zmn f g true (l.drop 1) (by omega) (by omega)]
  ·rfl
theorem Zmn:∀(f g:Nat) (b:Bool) (l:List UInt8),2*l.length+2≤f→2*l.length+2≤g→rdL f b l=rdL g b l
 | 0,g,b,l,h,_=>by omega
 | f+1,0,b,l,_,h=>by omega
 | f+1,g+1,b,l,hf,hg=>by
  rw[rdL,rdL]
  split
  ·rfl
  ·split
   ·rfl
   ·have hl:(if b then l else l.drop 1).length≤l.length:=by cases b<;>simp
    rw[Zq1 f g _ (by omega) (by omega)]
    split
    ·rfl
    ·rename_i v r hv
     have:=Zpt hv
     rw[Zmn f g false r (by omega) (by omega)]
end
def Zfv (l:List UInt8):Option PV :=
 match rdV (2*l.length+1) l with
 | some (v,r)=>if r=[]∧wtV v≤600 then some v else none
 | none=>none
theorem Zkx {l:List UInt8}{v:PV}(h:Zfv l=some v):l=wrV v∧okV v∧wtV v≤600:=by
 unfold Zfv at h
 split at h
 ·rename_i u r hr
  split at h
  ·rename_i g
   cases h
   obtain⟨e,o⟩:=Zwl _ _ _ _ hr
   rw[g.1,List.append_nil] at e
   exact⟨e,o,g.2⟩
  ·cases h
 ·cases h
theorem Zx5 {l:List UInt8}(h:20000<l.length):Zfv l=none:=by
 cases hr:Zfv l with
 | none=>rfl
 | some v =>
  obtain⟨e,o,g⟩:=Zkx hr
  have:=Zkg v o
  rw[←e] at this
  omega
end Go.Proofs.YtliapghpeoaonaaGreatDoor
namespace Go.Proofs.YtliapghpeoaonaaGreatDoor
open Go.RowKit
abbrev Env:=List (List UInt8×PV)
def Zey (s:Env)(n:List UInt8):Option PV:=(s.find? fun x=>x.1==n).map (·.2)
def Z3m (b:Bool):PV:=.num (if b then 1 else 0)
def atV (l:List PV)(i:Int):Option PV:=if 0≤i then l[i.toNat]? else none
def Zzt (l:List PV)(i:Int)(v:PV):Option PV:=if 0≤i∧i<l.length then some (.lst (l.set i.toNat v)) else none
def Zyi (wd:List UInt8)(x y:Int):PV :=
 if wd=[97,100,100] then .num (wrap64 (x+y)) else if wd=[115,117,98] then .num (wrap64 (x-y)) else if wd=[109,117,108] then .num (wrap64 (x*y)) else Z3m (decide (x<y))
def op2 (wd:List UInt8)(a b:PV):Option PV :=
 if wd=[101,113] then some (Z3m (Zcl a b))
 else if wd=[97,116] then match a,b with
  | .lst l,.num i=>atV l i
  | _,_=>none
 else if wd=[106,111,105,110] then match a,b with
  | .txt x,.txt y=>some (.txt (x++y))
  | .lst x,.lst y=>some (.lst (x++y))
  | _,_=>none
 else match a,b with
  | .num x,.num y=>some (Zyi wd x y)
  | _,_=>none
def Zn8:PV→Option PV
 | .txt b=>some (.num b.length)
 | .lst l=>some (.num l.length)
 | .num _=>none
def set3:PV→PV→PV→Option PV
 | .lst l,.num i,v=>Zzt l i v
 | _,_,_=>none
def Za1 (wd:List UInt8):List PV→Option PV
 | [a]=>Zn8 a
 | [a,b]=>op2 wd a b
 | [a,b,c]=>set3 a b c
 | _=>none
def Zeg:Option PV→Option PV
 | some v=>if wtV v≤600 then some v else none
 | none=>none
def evL (E:Nat→Ex→Option (PV×Nat)):Nat→List Ex→Option (List PV×Nat)
 | k,[]=>some ([],k)
 | k,e::es=>match E k e with
  | none=>none
  | some (v,k1)=>match evL E k1 es with
   | none=>none
   | some (vs,k2)=>some (v::vs,k2)
def Zdp (f:Fn)(vs:List PV):Env:=((f.params.map (·.1)).zip vs).reverse
def evC (E:Nat→Env→Ex→Option (PV×Nat))(fns:List Fn)(k:Nat)(n:List UInt8)(vs:List PV):Option (PV×Nat) :=
 match fns.find? (fun f=>f.name==n) with
 | none=>none
 | some f=>E k (Zdp f vs) f.body
def evM (C:Nat→PV→Option (PV×Nat)):Nat→List PV→Option (List PV×Nat)
 | k,[]=>some ([],k)
 | k,v::vs=>match C k v with
  | none=>none
  | some (u,k1)=>match evM C k1 vs with
   | none=>none
   | some (us,k2)=>some (u::us,k2)
def Zcu:Option (List PV×Nat)→Option (PV×Nat)
 | some (us,k)=>if wtV (.lst us)≤600 then some (.lst us,k) else none
 | none=>none
def evF (E:Nat→Env→Ex→Option (PV×Nat))(fns:List Fn)(k:Nat)(wd n:List UInt8)(vs:List PV):Option (PV×Nat) :=
 if wd=[108,105,115,116] then Zcu (some (vs,k))
 else if wd=[99,97,108,108] then evC E fns k n vs
 else if wd=[109,97,112] then match vs with
  | [.lst l]=>Zcu (evM (fun k v=>evC E fns k n [v]) k l)
  | _=>none
 else (Zeg (Za1 wd vs)).map fun v=>(v,k)
def Zrw (E:Nat→Ex→Option (PV×Nat))(k:Nat):List Ex→Option (PV×Nat)
 | [c,t,e]=>match E k c with
  | some (.num z,k1)=>if z=0 then E k1 e else E k1 t
  | _=>none
 | _=>none
def Zk5 (E:Nat→Env→Ex→Option (PV×Nat))(k:Nat)(s:Env)(n:List UInt8):List Ex→Option (PV×Nat)
 | [v,b]=>match E k s v with
  | some (u,k1)=>E k1 ((n,u)::s) b
  | none=>none
 | _=>none
def evX (E:Nat→Env→Ex→Option (PV×Nat))(fns:List Fn)(k:Nat)(s:Env):Ex→Option (PV×Nat)
 | .num b=>some (.num (Zbb b),k)
 | .txt b=>some (.txt b,k)
 | .var n _=>(Zey s n).map fun v=>(v,k)
 | .form wd n _ ks =>
  if wd=[105,102] then Zrw (fun k e=>E k s e) k ks
  else if wd=[108,101,116] then Zk5 E k s n ks
  else match evL (fun k e=>E k s e) k ks with
   | none=>none
   | some (vs,k1)=>evF E fns k1 wd n vs
def evE (fns:List Fn):Nat→Nat→Env→Ex→Option (PV×Nat)
 | 0,_,_,_=>none
 | _+1,0,_,_=>none
 | f+1,k+1,s,e=>evX (evE fns f) fns k s e
def Zf4 (fns:List Fn)(n:List UInt8)(vs:List PV):Option PV :=
 match fns.find? (fun f=>f.name==n) with
 | none=>none
 | some f=>if f.params.length=vs.length then (evE fns 20000 20000 (Zdp f vs) f.body).map (·.1) else none
def NumT (b:List UInt8):Prop:=∃ds,(b=ds∨b=45::ds)∧1≤ds.length∧ds.length≤9∧∀c∈ds,Zav c=true
theorem Zt3:∀(ds:List UInt8) (n:Int),(∀c∈ds,Zav c=true)→0≤n→0≤ds.foldl (fun n c=>10*n+((c.toNat:Int)-48)) n∧ds.foldl (fun n c=>10*n+((c.toNat:Int)-48)) n<(n+1)*10 ^ ds.length
 | [],n,_,h=>by simp;omega
 | c::ds,n,hd,h=>by
  have hc:=hd c (by simp)
  simp[Zav,UInt8.le_iff_toNat_le] at hc
  obtain⟨g1,g2⟩:=Zt3 ds (10*n+((c.toNat:Int)-48)) (fun x hx=>hd x (by simp[hx])) (by omega)
  refine⟨g1,Int.lt_of_lt_of_le g2 ?_⟩
  rw[List.length_cons,Int.pow_succ,show (n+1)*(10 ^ ds.length*10)=((n+1)*10)*10 ^ ds.length by rw[Int.mul_comm (10 ^ ds.length) 10,Int.mul_assoc]]
  exact Int.mul_le_mul_of_nonneg_right (by omega) (Int.pow_nonneg (by decide))
theorem Zw3 {ds:List UInt8}(hd:∀c∈ds,Zav c=true)(hl:ds.length≤9):0≤Zam ds∧Zam ds<1000000000:=by
 obtain⟨g1,g2⟩:=Zt3 ds 0 hd (by decide)
 refine⟨g1,Int.lt_of_lt_of_le g2 ?_⟩
 rw[show (0+1:Int)*10 ^ ds.length=10 ^ ds.length by simp]
 have h10:(10:Nat) ^ ds.length≤10 ^ 9:=Nat.pow_le_pow_right (by decide) hl
 have h11:((10 ^ ds.length:Nat):Int)≤((10 ^ 9:Nat):Int):=Int.ofNat_le.2 h10
 simpa using h11
theorem NumT.val {b:List UInt8}(h:NumT b):-1000000000<Zbb b∧Zbb b<1000000000:=by
 obtain⟨ds,hb,h1,h9,hd⟩:=h
 have:=Zw3 hd h9
 rcases hb with rfl | rfl
 ·unfold Zbb
  split
  ·rename_i g
   cases b with
   | nil=>simp[Zad] at g
   | cons c r =>
    simp[Zad] at g
    have hc:=hd c (by simp)
    rw[g] at hc
    exact absurd hc (by decide)
  ·omega
 ·unfold Zbb
  simp[Zad]
  omega
theorem NumT.in64 {b:List UInt8}(h:NumT b):Zih (Zbb b):=by
 have:=h.val
 unfold Zih
 omega
mutual
def Zjd:Ex→Prop
 | .num b=>NumT b
 | .txt b=>b.length≤20
 | .var _ _=>True
 | .form _ _ _ ks=>Zer ks
def Zer:List Ex→Prop
 | []=>True
 | e::es=>Zjd e∧Zer es
end
theorem Zxe:∀(es:List Ex) (j:Nat) (hj:j<es.length),Zer es→Zjd es[j]
 | [],j,hj,_=>by simp at hj
 | e::es,0,_,h=>by rw[Zer] at h;exact h.1
 | e::es,j+1,hj,h=>by rw[Zer] at h;exact Zxe es j (by simpa using hj) h.2
def Zec (v:PV):Prop:=okV v∧wtV v≤600
def Zgj (s:Env):Prop:=∀x∈s,Zec x.2
theorem Zmz (z:Int):Zih (wrap64 z):=by unfold Zih wrap64;omega
theorem Zgj.of {s:Env}(h:Zgj s){n:List UInt8}{v:PV}(e:Zey s n=some v):Zec v:=by
 unfold Zey at e
 cases g:s.find? (fun x=>x.1==n) with
 | none=>rw[g] at e;cases e
 | some x=>rw[g] at e;cases e;exact h x (List.mem_of_find?_eq_some g)
theorem Zgj.cons {s:Env}(h:Zgj s){n:List UInt8}{v:PV}(hv:Zec v):Zgj ((n,v)::s):=by
 intro x hx
 rcases List.mem_cons.1 hx with rfl | hx
 ·exact hv
 ·exact h x hx
theorem Zgj.par {f:Fn}{vs:List PV}(h:∀v∈vs,Zec v):Zgj (Zdp f vs):=by
 intro x hx
 unfold Zdp at hx
 rw[List.mem_reverse] at hx
 exact h _ (List.of_mem_zip hx).2
theorem Zuc (b:Bool):Zec (Z3m b):=by
 unfold Z3m Zec
 rw[okV,wtV]
 unfold Zih
 cases b<;>simp
theorem Zvn {o:Option PV}{v:PV}(h:Zeg o=some v):o=some v∧wtV v≤600:=by
 cases o with
 | none=>cases h
 | some u =>
  simp only[Zeg] at h
  split at h
  ·rename_i g;cases h;exact⟨rfl,g⟩
  ·cases h
theorem Zn7 {o:Option (List PV×Nat)}{v:PV}{k:Nat}(h:Zcu o=some (v,k)):∃us,o=some (us,k)∧v=.lst us∧wtV (.lst us)≤600:=by
 match o with
 | none=>cases h
 | some (us,k') =>
  simp only[Zcu] at h
  split at h
  ·rename_i g;cases h;exact⟨us,rfl,rfl,g⟩
  ·cases h
theorem Zjz:∀{l:List PV},(∀v∈l,okV v)→Zha l
 | [],_=>by rw[Zha];trivial
 | v::r,h=>by rw[Zha];exact⟨h v (by simp),Zjz fun u hu=>h u (by simp[hu])⟩
theorem Zmo:∀{l:List PV},Zha l→∀v∈l,okV v
 | [],_,v,hv=>by simp at hv
 | u::r,h,v,hv=>by
  rw[Zha] at h
  rcases List.mem_cons.1 hv with rfl | hv
  ·exact h.1
  ·exact Zmo h.2 v hv
theorem Zmg:∀{l:List PV} {v:PV},v∈l→wtV v≤Zbh l
 | [],v,hv=>by simp at hv
 | u::r,v,hv=>by
  rw[Zbh]
  rcases List.mem_cons.1 hv with rfl | hv
  ·omega
  ·have:=Zmg hv;omega
theorem Zec.item {l:List PV}(h:Zec (.lst l)){v:PV}(hv:v∈l):Zec v:=by
 obtain⟨h1,h2⟩:=h
 rw[okV] at h1
 rw[wtV] at h2
 have:=Zmg hv
 exact⟨Zmo h1 v hv,by omega⟩
theorem Zx1 {wd:List UInt8}{vs:List PV}{v:PV}(h:Za1 wd vs=some v)(hv:∀u∈vs,Zec u):okV v:=by
 match vs,h,hv with
 | [a],h,hv =>
  have ha:=hv a (by simp)
  cases a with
  | num z=>cases h
  | txt b =>
   cases h
   have:=ha.2
   rw[wtV] at this
   rw[okV];unfold Zih;omega
  | lst l =>
   cases h
   have:=ha.2
   rw[wtV] at this
   have:=Zdd l
   rw[okV];unfold Zih;omega
 | [a,b],h,hv =>
  have ha:=hv a (by simp)
  have hb:=hv b (by simp)
  simp only[Za1,op2] at h
  split at h
  ·cases h;exact (Zuc _).1
  split at h
  ·cases a with
   | num z=>cases h
   | txt z=>cases h
   | lst l =>
    cases b with
    | num i =>
     simp only[atV] at h
     split at h
     ·exact (ha.item (List.mem_of_getElem? h)).1
     ·cases h
    | txt z=>cases h
    | lst z=>cases h
  split at h
  ·cases a with
   | num z=>cases h
   | txt x =>
    cases b with
    | num i=>cases h
    | txt y=>cases h;rw[okV];trivial
    | lst z=>cases h
   | lst x =>
    cases b with
    | num i=>cases h
    | txt y=>cases h
    | lst y =>
     cases h
     have h1:=ha.1
     have h2:=hb.1
     rw[okV] at h1 h2 ⊢
     exact Zi3 h1 h2
  ·cases a with
   | num x =>
    cases b with
    | num y =>
     cases h
     unfold Zyi
     repeat' split
     all_goals first | exact (Zuc _).1 | (rw[okV];exact Zmz _)
    | txt y=>cases h
    | lst y=>cases h
   | txt x=>cases h
   | lst x=>cases h
 | [a,b,c],h,hv =>
  have ha:=hv a (by simp)
  have hc:=hv c (by simp)
  cases a with
  | num x=>cases h
  | txt x=>cases h
  | lst l =>
   cases b with
   | txt y=>cases h
   | lst y=>cases h
   | num i =>
    simp only[Za1,set3,Zzt] at h
    split at h
    ·cases h
     rw[okV]
     have h1:=ha.1
     rw[okV] at h1
     refine Zjz fun u hu=>?_
     rcases List.mem_or_eq_of_mem_set hu with g | rfl
     ·exact Zmo h1 u g
     ·exact hc.1
    ·cases h
 | [],h,_=>cases h
 | _::_::_::_::_,h,_=>cases h
def Zg2 (E:Nat→Env→Ex→Option (PV×Nat)):Prop:=∀k s e v k',Zgj s→Zjd e→E k s e=some (v,k')→Zec v∧k'≤k
theorem Zrv {E:Nat→Env→Ex→Option (PV×Nat)}(hE:Zg2 E){s:Env}(hs:Zgj s):∀(es:List Ex) (k:Nat) (vs:List PV) (k':Nat),Zer es→evL (fun k e=>E k s e) k es=some (vs,k')→(∀v∈vs,Zec v)∧vs.length=es.length∧k'≤k
 | [],k,vs,k',_,h=>by cases h;exact⟨fun v hv=>by simp at hv,rfl,Nat.le_refl _⟩
 | e::es,k,vs,k',hl,h=>by
  rw[Zer] at hl
  simp only[evL] at h
  split at h
  ·cases h
  ·rename_i v k1 h1
   split at h
   ·cases h
   ·rename_i us k2 h2
    cases h
    obtain⟨g1,g2⟩:=hE k s e v k1 hs hl.1 h1
    obtain⟨g3,g4,g5⟩:=Zrv hE hs es k1 us k' hl.2 h2
    refine⟨fun u hu=>?_,by simp[g4],by omega⟩
    rcases List.mem_cons.1 hu with rfl | hu
    ·exact g1
    ·exact g3 u hu
theorem Zka {E:Nat→Env→Ex→Option (PV×Nat)}(hE:Zg2 E){fns:List Fn}(hf:∀f∈fns,Zjd f.body){k:Nat}{n:List UInt8}{vs:List PV}{v:PV}{k':Nat}(hv:∀u∈vs,Zec u)(h:evC E fns k n vs=some (v,k')):Zec v∧k'≤k:=by
 unfold evC at h
 split at h
 ·cases h
 ·rename_i f g
  exact hE k _ _ v k' (Zgj.par hv) (hf f (List.mem_of_find?_eq_some g)) h
theorem Zw2 {C:Nat→PV→Option (PV×Nat)}(hC:∀k u v k',Zec u→C k u=some (v,k')→Zec v∧k'≤k):∀(l:List PV) (k:Nat) (us:List PV) (k':Nat),(∀v∈l,Zec v)→evM C k l=some (us,k')→(∀v∈us,Zec v)∧us.length=l.length∧k'≤k
 | [],k,us,k',_,h=>by cases h;exact⟨fun v hv=>by simp at hv,rfl,Nat.le_refl _⟩
 | u::r,k,us,k',hl,h=>by
  simp only[evM] at h
  split at h
  ·cases h
  ·rename_i v k1 h1
   split at h
   ·cases h
   ·rename_i ws k2 h2
    cases h
    obtain⟨g1,g2⟩:=hC k u v k1 (hl u (by simp)) h1
    obtain⟨g3,g4,g5⟩:=Zw2 hC r k1 ws k' (fun x hx=>hl x (by simp[hx])) h2
    refine⟨fun x hx=>?_,by simp[g4],by omega⟩
    rcases List.mem_cons.1 hx with rfl | hx
    ·exact g1
    ·exact g3 x hx
theorem evF_good {E:Nat→Env→Ex→Option (PV×Nat)}(hE:Zg2 E){fns:List Fn}(hf:∀f∈fns,Zjd f.body){k:Nat}{wd n:List UInt8}{vs:List PV}{v:PV}{k':Nat}(hv:∀u∈vs,Zec u)(h:evF E fns k wd n vs=some (v,k')):Zec v∧k'≤k:=by
 unfold evF at h
 split at h
 ·obtain⟨us,h1,rfl,h3⟩:=Zn7 h
  cases h1
  exact⟨⟨by rw[okV];exact Zjz fun u hu=>(hv u hu).1,h3⟩,Nat.le_refl _⟩
 split at h
 ·exact Zka hE hf hv h
 split at h
 ·split at h
  ·rename_i l
   obtain⟨us,h1,rfl,h3⟩:=Zn7 h
   have hl:=hv (.lst l) (by simp)
   obtain⟨g1,_,g3⟩:=Zw2 (fun k u v k' hu he=>Zka hE hf (vs:=[u]) (by intro x hx;simp at hx;subst hx;exact hu) he) l k us k' (fun x hx=>hl.item hx) h1
   exact⟨⟨by rw[okV];exact Zjz fun u hu=>(g1 u hu).1,h3⟩,g3⟩
  ·cases h
 ·cases g:Zeg (Za1 wd vs) with
  | none=>rw[g] at h;cases h
  | some u =>
   rw[g] at h
   cases h
   obtain⟨h1,h2⟩:=Zvn g
   exact⟨⟨Zx1 h1 hv,h2⟩,Nat.le_refl _⟩
theorem evX_good {E:Nat→Env→Ex→Option (PV×Nat)}(hE:Zg2 E){fns:List Fn}(hf:∀f∈fns,Zjd f.body){k:Nat}{s:Env}{e:Ex}{v:PV}{k':Nat}(hs:Zgj s)(he:Zjd e)(h:evX E fns k s e=some (v,k')):Zec v∧k'≤k:=by
 cases e with
 | num b =>
  cases h
  rw[Zjd] at he
  exact⟨⟨by rw[okV];exact he.in64,by rw[wtV];omega⟩,Nat.le_refl _⟩
 | txt b =>
  cases h
  rw[Zjd] at he
  exact⟨⟨by rw[okV];trivial,by rw[wtV];omega⟩,Nat.le_refl _⟩
 | var n a =>
  simp only[evX] at h
  cases g:Zey s n with
  | none=>rw[g] at h;cases h
  | some u=>rw[g] at h;cases h;exact⟨hs.of g,Nat.le_refl _⟩
 | form wd n a ks =>
  rw[Zjd] at he
  simp only[evX] at h
  split at h
  ·match ks,h,he with
   | [c,t,x],h,he =>
    rw[Zer,Zer,Zer] at he
    simp only[Zrw] at h
    split at h
    ·rename_i z k1 h1
     obtain⟨_,g2⟩:=hE k s c _ k1 hs he.1 h1
     split at h
     ·obtain⟨g3,g4⟩:=hE k1 s x v k' hs he.2.2.1 h
      exact⟨g3,by omega⟩
     ·obtain⟨g3,g4⟩:=hE k1 s t v k' hs he.2.1 h
      exact⟨g3,by omega⟩
    ·cases h
   | [],h,_=>cases h
   | [_],h,_=>cases h
   | [_,_],h,_=>cases h
   | _::_::_::_::_,h,_=>cases h
  split at h
  ·match ks,h,he with
   | [x,b],h,he =>
    rw[Zer,Zer] at he
    simp only[Zk5] at h
    split at h
    ·rename_i u k1 h1
     obtain⟨g1,g2⟩:=hE k s x u k1 hs he.1 h1
     obtain⟨g3,g4⟩:=hE k1 _ b v k' (hs.cons g1) he.2.1 h
     exact⟨g3,by omega⟩
    ·cases h
   | [],h,_=>cases h
   | [_],h,_=>cases h
   | _::_::_::_,h,_=>cases h
  ·split at h
   ·cases h
   ·rename_i vs k1 h1
    obtain⟨g1,_,g3⟩:=Zrv hE hs ks k vs k1 he h1
    obtain⟨g4,g5⟩:=evF_good hE hf g1 h
    exact⟨g4,by omega⟩
theorem Zj9 {fns:List Fn}(hf:∀f∈fns,Zjd f.body):∀f,Zg2 (evE fns f)
 | 0,k,s,e,v,k',_,_,h=>by cases h
 | f+1,0,s,e,v,k',_,_,h=>by cases h
 | f+1,k+1,s,e,v,k',hs,he,h=>by
  obtain⟨g1,g2⟩:=evX_good (Zj9 hf f) hf hs he h
  exact⟨g1,by omega⟩
end Go.Proofs.YtliapghpeoaonaaGreatDoor
namespace Go.Proofs.YtliapghpeoaonaaGreatDoor
def Z3y (t:Tok):Prop:=(t.k=.num→NumT t.body)∧(t.k=.txt→(Zj5 t.body).length≤20)
theorem Zjq (p:UInt8→Bool):∀(l:List UInt8),∀c∈l.take (Zbd p l),p c=true
 | [],c,hc=>by simp at hc
 | a::l,c,hc=>by
  cases h:p a with
  | false=>rw[Zhk p a l h] at hc;simp at hc
  | true =>
   rw[Zb1 p a l h] at hc
   rw[List.take_succ_cons] at hc
   rcases List.mem_cons.1 hc with rfl | hc
   ·exact h
   ·exact Zjq p l c hc
theorem numL_T {l:List UInt8}{n:Nat}(h:Znx l=some n):NumT (l.take n):=by
 unfold Znx at h
 split at h
 ·cases h
 ·rename_i hh
  simp only[Option.some.injEq] at h
  have h1:=Zdb Zav (Zaj l)
  refine⟨(Zaj l).take (Zbd Zav (Zaj l)),?_,by rw[List.length_take];omega,by rw[List.length_take];omega,Zjq Zav _⟩
  subst h
  unfold Zaj
  split
  ·rename_i g
   right
   have e:=Zcg g
   have e2:l.length-(l.drop 1).length+Zbd Zav (l.drop 1)=Zbd Zav (l.drop 1)+1:=by
    have:=congrArg List.length e
    simp at this
    simp
    omega
   rw[e2]
   conv=>lhs;rw[e]
   rw[List.take_succ_cons]
   rfl
  ·left
   simp
theorem Ztk {l:List UInt8}(h:(Zal l).1=.num):NumT (l.take (Zal l).2):=by
 cases l with
 | nil=>simp[Zal] at h
 | cons c r =>
  simp only[Zal] at h ⊢
  split at h
  ·cases h
  split at h
  ·cases h
  split at h
  ·cases g:Zg8 (c::r) with
   | none=>simp[g,Zb6] at h
   | some n=>simp[g,Zb6] at h
  split at h
  ·rename_i a1 a2 a3 a4
   cases g:Znx (c::r) with
   | none=>simp[g,Zb6] at h
   | some n =>
    simp only[a1,a2,a3,a4,if_true,if_false,Bool.false_eq_true,Zb6]
    exact numL_T g
  split at h
  ·cases g:Zic (c::r) with
   | none=>simp[g,Zb6] at h
   | some n=>simp[g,Zb6] at h
  ·cases h
theorem Zrh {l:List UInt8}(h:(Zal l).1=.txt):(Zal l).2≤22:=by
 cases l with
 | nil=>simp[Zal] at h
 | cons c r =>
  simp only[Zal] at h ⊢
  split at h
  ·cases h
  split at h
  ·cases h
  split at h
  ·rename_i a1 a2 a3
   cases g:Zg8 (c::r) with
   | none=>simp[g,Zb6] at h
   | some n =>
    simp only[a1,a2,a3,if_true,if_false,Bool.false_eq_true,Zb6]
    unfold Zg8 at g
    split at g
    ·cases g
    ·simp only[Option.some.injEq] at g
     omega
  split at h
  ·cases g:Znx (c::r) with
   | none=>simp[g,Zb6] at h
   | some n=>simp[g,Zb6] at h
  split at h
  ·cases g:Zic (c::r) with
   | none=>simp[g,Zb6] at h
   | some n=>simp[g,Zb6] at h
  ·cases h
theorem Zi4 (s:List UInt8)(p:Nat):Z3y (Zah s p):=by
 refine⟨fun h=>?_,fun h=>?_⟩
 ·exact Ztk (l:=s.drop (p+Zbd blank (s.drop p))) h
 ·have:=Zrh (l:=s.drop (p+Zbd blank (s.drop p))) h
  simp only[Zah,Zj5,List.length_take,List.length_drop]
  omega
theorem Zy3 {s:List UInt8}:∀{p:Nat} {ts:List Tok},Za4 s p ts→∀t∈ts,Z3y t:=by
 intro p ts h
 induction h with
 | last _=>intro t ht;simp at ht;subst ht;exact Zi4 _ _
 | more _ _ _ ih =>
  intro t ht
  rcases List.mem_cons.1 ht with rfl | ht
  ·exact Zi4 _ _
  ·exact ih t ht
abbrev Zqa (ts:List Tok):Prop:=∀t∈ts,Z3y t
theorem pF_lit {L:Nat→Int→List Tok→Res (List Ex)}(hL:∀d m ts es r,Zqa ts→L d m ts=.ok es r→Zer es∧Zqa r){d:Nat}{ts:List Tok}{e:Ex}{r:List Tok}(ht:Zqa ts)(h:pF L d ts=.ok e r):Zjd e∧Zqa r:=by
 cases ts with
 | nil=>cases h
 | cons t ts =>
  have ht2:Zqa ts:=fun x hx=>ht x (by simp[hx])
  simp only[pF] at h
  split at h
  ·cases h
  ·rename_i n hn
   cases g:L d n ts with
   | err c a=>rw[g] at h;cases h
   | ok ks r' =>
    rw[g] at h
    cases h
    rw[Zjd]
    exact hL _ _ _ _ _ ht2 g
  ·rename_i n hn
   cases ts with
   | nil=>cases h
   | cons u us =>
    have ht3:Zqa us:=fun x hx=>ht2 x (by simp[hx])
    simp only at h
    split at h
    ·cases g:L d n us with
     | err c a=>rw[g] at h;cases h
     | ok ks r' =>
      rw[g] at h
      cases h
      rw[Zjd]
      exact hL _ _ _ _ _ ht3 g
    ·cases h
theorem pE_lit {L:Nat→Int→List Tok→Res (List Ex)}(hL:∀d m ts es r,Zqa ts→L d m ts=.ok es r→Zer es∧Zqa r){d:Nat}{ts:List Tok}{e:Ex}{r:List Tok}(ht:Zqa ts)(h:pE L d ts=.ok e r):Zjd e∧Zqa r:=by
 cases ts with
 | nil=>cases h
 | cons t ts =>
  have ht1:=ht t (by simp)
  have ht2:Zqa ts:=fun x hx=>ht x (by simp[hx])
  simp only[pE] at h
  split at h
  ·rename_i hk;cases h;rw[Zjd];exact⟨ht1.1 hk,ht2⟩
  ·rename_i hk;cases h;rw[Zjd];exact⟨ht1.2 hk,ht2⟩
  ·split at h
   ·cases h
   ·cases h;rw[Zjd];exact⟨trivial,ht2⟩
  ·split at h
   ·cases h
   ·exact pF_lit hL ht2 h
  ·cases h
theorem Z04:∀(f d:Nat) (m:Int) (ts:List Tok) (es:List Ex) (r:List Tok),Zqa ts→pL f d m ts=.ok es r→Zer es∧Zqa r
 | 0,_,_,_,_,_,_,h=>by cases h
 | f+1,_,_,[],_,_,_,h=>by cases h
 | f+1,d,m,t::ts,es,r,ht,h=>by
  simp only[pL] at h
  split at h
  ·split at h
   ·cases h
    exact⟨by rw[Zer];trivial,fun x hx=>ht x (by simp[hx])⟩
   ·cases h
  ·cases g:pE (pL f) d (t::ts) with
   | err c a=>rw[g] at h;cases h
   | ok e r' =>
    rw[g] at h
    obtain⟨h1,h2⟩:=pE_lit (fun d m ts es r=>Z04 f d m ts es r) ht g
    cases g2:pL f d (if m<0 then m else m-1) r' with
    | err c a=>simp only[g2,Zgh] at h;cases h
    | ok es' r'' =>
     simp only[g2,Zgh] at h
     cases h
     obtain⟨h3,h4⟩:=Z04 f _ _ _ _ _ h2 g2
     exact⟨by rw[Zer];exact⟨h1,h3⟩,h4⟩
theorem pP_lit:∀(ts:List Tok) (ns:List (List UInt8×Nat)) (r:List Tok),Zqa ts→pP ts=.ok ns r→Zqa r
 | [],_,_,_,h=>by cases h
 | t::ts,ns,r,ht,h=>by
  have ht2:Zqa ts:=fun x hx=>ht x (by simp[hx])
  simp only[pP] at h
  split at h
  ·cases h;exact ht2
  ·split at h
   ·cases g:pP ts with
    | err c a=>simp only[g,Zig] at h;cases h
    | ok ns' r' =>
     simp only[g,Zig] at h
     cases h
     exact pP_lit ts _ _ ht2 g
   ·cases h
theorem pFun_lit {G:Nat}{ts:List Tok}{fn:Fn}{r:List Tok}(ht:Zqa ts)(h:Zfd G ts=.ok fn r):Zjd fn.body∧Zqa r:=by
 match ts,h,ht with
 | t::u::n::o::ts,h,ht =>
  have ht2:Zqa ts:=fun x hx=>ht x (by simp[hx])
  simp only[Zfd] at h
  split at h
  ·cases h
  split at h
  ·cases h
  split at h
  ·cases h
  split at h
  ·cases h
  cases e:pP ts with
  | err c a=>rw[e] at h;cases h
  | ok ns r1 =>
   rw[e] at h
   simp only[Zdy] at h
   cases e2:pL G 1 1 r1 with
   | err c a=>rw[e2] at h;cases h
   | ok es r2 =>
    rw[e2] at h
    obtain⟨h2,h3⟩:=Z04 _ _ _ _ _ _ (pP_lit _ _ _ ht2 e) e2
    cases es with
    | nil=>cases h
    | cons b l =>
     cases h
     rw[Zer] at h2
     exact⟨h2.1,h3⟩
 | [t,u,n],h,_ =>
  simp only[Zfd] at h
  split at h
  ·cases h
  split at h<;>cases h
 | [t,u],h,_ =>
  simp only[Zfd] at h
  split at h<;>cases h
 | [t],h,_=>cases h
 | [],h,_=>cases h
theorem Zs6:∀(f:Nat) (ts:List Tok) (fns:List Fn) (r:List Tok),Zqa ts→Zb7 f ts=.ok fns r→∀fn∈fns,Zjd fn.body∧WfE fn.body
 | 0,_,_,_,_,h=>by cases h
 | f+1,[],_,_,_,h=>by cases h
 | f+1,t::ts,fns,r,ht,h=>by
  simp only[Zb7] at h
  split at h
  ·cases h;intro fn hfn;simp at hfn
  ·cases g:Zfd (f+1) (t::ts) with
   | err c a=>rw[g] at h;cases h
   | ok fn r' =>
    rw[g] at h
    obtain⟨h1,h2⟩:=pFun_lit ht g
    have h5:=Z06 g
    cases g2:Zb7 f r' with
    | err c a=>simp only[g2,Zk8] at h;cases h
    | ok fs r'' =>
     simp only[g2,Zk8] at h
     cases h
     intro x hx
     rcases List.mem_cons.1 hx with rfl | hx
     ·exact⟨h1,h5⟩
     ·exact Zs6 f r' fs r h2 g2 x hx
def Zxf (fns:List Fn)(n:List UInt8)(k:Nat):Prop:=∃f,fns.find? (fun f=>f.name==n)=some f∧f.params.length=k
mutual
def ScE (fns:List Fn)(sc:List (List UInt8)):Ex→Prop
 | .num _=>True
 | .txt _=>True
 | .var n _=>n∈sc
 | .form w n _ ks=>((w=[99,97,108,108]∨w=[109,97,112])→Zxf fns n ks.length)∧(w=[108,101,116]→Z31 fns sc n ks)∧(w≠[108,101,116]→Zzw fns sc ks)
def Zzw (fns:List Fn)(sc:List (List UInt8)):List Ex→Prop
 | []=>True
 | e::es=>ScE fns sc e∧Zzw fns sc es
def Z31 (fns:List Fn)(sc:List (List UInt8))(n:List UInt8):List Ex→Prop
 | []=>True
 | e::es=>ScE fns sc e∧Zzw fns (n::sc) es
end
theorem Z1d {a b:Option (Nat×Nat)}(h:orE a b=none):a=none∧b=none:=by
 cases a with
 | none=>exact⟨rfl,h⟩
 | some x=>cases h
mutual
theorem Z1r {fns:List Fn}{fs:List (List UInt8×Nat)}(hfs:∀n k,Zc9 fs n=some k→Zxf fns n k):∀(e:Ex) (scope sc:List (List UInt8)),(∀n∈scope,n∈sc)→nmE fs scope e=none→ScE fns sc e
 | .num _,_,_,_,_=>by rw[ScE];trivial
 | .txt _,_,_,_,_=>by rw[ScE];trivial
 | .var n a,scope,sc,hs,h=>by
  rw[nmE] at h
  rw[ScE]
  split at h
  ·rename_i hc
   exact hs n (by simpa using hc)
  ·cases h
 | .form w n a ks,scope,sc,hs,h=>by
  rw[nmE] at h
  rw[ScE]
  by_cases hc:w=[99,97,108,108]∨w=[109,97,112]
  ·have hb:(w==[99,97,108,108] || w==[109,97,112])=true:=by simpa using hc
   rw[if_pos hb] at h
   obtain⟨h1,h2⟩:=Z1d h
   refine⟨fun _=>?_,fun hl=>?_,fun _=>Zrb hfs ks scope sc hs h2⟩
   ·unfold Zcb at h1
    split at h1
    ·cases h1
    ·rename_i k hk
     split at h1
     ·rename_i e;subst e;exact hfs n _ hk
     ·cases h1
   ·rcases hc with hc | hc<;>(rw[hc] at hl;exact absurd hl (by decide))
  ·have hb:¬ (w==[99,97,108,108] || w==[109,97,112])=true:=by simpa using hc
   rw[if_neg hb] at h
   refine⟨fun g=>absurd g hc,fun hl=>?_,fun hl=>?_⟩
   ·rw[if_pos (by simpa using hl)] at h
    cases ks with
    | nil=>rw[Z31];trivial
    | cons x r =>
     rw[Zq9] at h
     obtain⟨h1,h2⟩:=Z1d h
     rw[Z31]
     refine⟨Z1r hfs x scope sc hs h1,Zrb hfs r (scope++[n]) (n::sc) (fun m hm=>?_) h2⟩
     rcases List.mem_append.1 hm with hm | hm
     ·exact List.mem_cons_of_mem _ (hs m hm)
     ·simp at hm;subst hm;simp
   ·rw[if_neg (by simpa using hl)] at h
    exact Zrb hfs ks scope sc hs h
theorem Zrb {fns:List Fn}{fs:List (List UInt8×Nat)}(hfs:∀n k,Zc9 fs n=some k→Zxf fns n k):∀(es:List Ex) (scope sc:List (List UInt8)),(∀n∈scope,n∈sc)→Zfu fs scope es=none→Zzw fns sc es
 | [],_,_,_,_=>by rw[Zzw];trivial
 | e::es,scope,sc,hs,h=>by
  rw[Zfu] at h
  obtain⟨h1,h2⟩:=Z1d h
  rw[Zzw]
  exact⟨Z1r hfs e scope sc hs h1,Zrb hfs es scope sc hs h2⟩
end
theorem Ztq:∀(p:List Fn) (n:List UInt8) (k:Nat),Zc9 (p.map Za5) n=some k→Zxf p n k
 | [],n,k,h=>by simp[Zc9] at h
 | f::p,n,k,h=>by
  simp only[Zc9,List.map_cons,List.find?_cons] at h
  cases hb:(Za5 f).1==n with
  | true =>
   rw[hb] at h
   simp at h
   have hb2:(f.name==n)=true:=hb
   exact⟨f,by simp only[List.find?_cons,hb2],h⟩
  | false =>
   rw[hb] at h
   obtain⟨g,h1,h2⟩:=Ztq p n k h
   have hb2:(f.name==n)=false:=hb
   exact⟨g,by simp only[List.find?_cons,hb2,h1],h2⟩
theorem Zxf.append {p:List Fn}{n:List UInt8}{k:Nat}(h:Zxf p n k)(q:List Fn):Zxf (p++q) n k:=by
 obtain⟨f,h1,h2⟩:=h
 exact⟨f,by rw[List.find?_append,h1];rfl,h2⟩
theorem Zwu:∀(q p fns:List Fn),fns=p++q→Zdr (p.map Za5) q=none→∀f∈q,ScE fns (f.params.map (·.1)) f.body
 | [],p,fns,_,_,f,hf=>by simp at hf
 | x::q,p,fns,hfn,h,f,hf=>by
  simp only[Zdr] at h
  split at h
  ·cases h
  ·rename_i hx
   rcases List.mem_cons.1 hf with rfl | hf
   ·unfold Zj1 at hx
    split at hx
    ·cases hx
    ·split at hx
     ·cases hx
     ·exact Z1r (fun n k hk=>by rw[hfn];exact (Ztq p n k hk).append _) _ _ _ (fun n hn=>hn) hx
   ·exact Zwu q (p++[x]) fns (by rw[hfn];simp) (by rw[List.map_append];exact h) f hf
theorem Z32 {fns:List Fn}{sc:List (List UInt8)}:∀(es:List Ex) (j:Nat) (hj:j<es.length),Zzw fns sc es→ScE fns sc es[j]
 | [],j,hj,_=>by simp at hj
 | e::es,0,_,h=>by rw[Zzw] at h;exact h.1
 | e::es,j+1,hj,h=>by rw[Zzw] at h;exact Z32 es j (by simpa using hj) h.2
structure Ze1 (fns:List Fn):Prop where
 lit:∀f∈fns,Zjd f.body
 wf:∀f∈fns,WfE f.body
 sc:∀f∈fns,ScE fns (f.params.map (·.1)) f.body
 sz:∀f∈fns,f.params.length+szE f.body≤7000
theorem Zy9 {s:Env}{n:List UInt8}(h:n∈s.map (·.1)):∃v,Zey s n=some v:=by
 unfold Zey
 cases g:s.find? (fun x=>x.1==n) with
 | some x=>exact⟨x.2,rfl⟩
 | none =>
  rw[List.find?_eq_none] at g
  obtain⟨x,hx,e⟩:=List.mem_map.1 h
  exact absurd (by simpa using e) (g x hx)
theorem Zlr {f:Fn}{vs:List PV}(h:f.params.length=vs.length):∀n,n∈f.params.map (·.1)→n∈(Zdp f vs).map (·.1):=by
 intro n hn
 unfold Zdp
 rw[List.map_reverse,List.mem_reverse,List.map_fst_zip (by simp;omega)]
 exact hn
theorem Zos {es:List Ex}(h:Zer es):∀e∈es,Zjd e:=fun e he=>by
 obtain⟨j,hj,rfl⟩:=List.getElem_of_mem he
 exact Zxe es j hj h
theorem Zr7:∀{es:List Ex},Zp9 es→∀e∈es,WfE e
 | [],_,e,he=>by cases he
 | x::es,h,e,he=>by
  rw[Zp9] at h
  rcases List.mem_cons.1 he with rfl | he
  ·exact h.1
  ·exact Zr7 h.2 e he
theorem Zxb {fns:List Fn}{sc:List (List UInt8)}{es:List Ex}(h:Zzw fns sc es):∀e∈es,ScE fns sc e:=fun e he=>by
 obtain⟨j,hj,rfl⟩:=List.getElem_of_mem he
 exact Z32 es j hj h
theorem Zwd {es:List Ex}{e:Ex}(he:e∈es):szE e+1≤Zes es:=by
 obtain⟨j,hj,rfl⟩:=List.getElem_of_mem he
 exact Zks es j hj
theorem Zjp {wd:List UInt8}{ks:List Ex}{b:Bool}{n:Nat}(h:∃b m,Za3 wd=some (b,m)∧(0≤m→(ks.length:Int)=m))(e:Za3 wd=some (b,(n:Int))):ks.length=n:=by
 obtain⟨b',m,h1,h2⟩:=h
 rw[e] at h1
 simp only[Option.some.injEq,Prod.mk.injEq] at h1
 have:=h2 (by omega)
 omega
end Go.Proofs.YtliapghpeoaonaaGreatDoor
namespace Go.Proofs.YtliapghpeoaonaaGreatDoor
open Go.Lib
def Zhl (l:List UInt8):Option (PV×List UInt8):=rdV (2*l.length+1) l
def Zky (b:Bool)(l:List UInt8):Option (List PV×List UInt8):=rdL (2*l.length+2) b l
def lstR:Option (List PV×List UInt8)→Option (PV×List UInt8)
 | none=>none
 | some (vs,r)=>some (.lst vs,r)
theorem Zs0 {l:List UInt8}(h:Zad 40 l=true):Zhl l=lstR (Zky true (l.drop 1)):=by
 have hl:(l.drop 1).length+1=l.length:=by
  have:=congrArg List.length (Zcg h)
  rw[List.length_cons] at this
  exact this.symm
 unfold Zhl Zky
 rw[rdV,h]
 simp only[if_true]
 rw[Zmn (2*l.length) (2*(l.drop 1).length+2) true (l.drop 1) (by omega) (by omega)]
 cases rdL (2*(l.drop 1).length+2) true (l.drop 1) with
 | none=>rfl
 | some x=>rfl
theorem Zsz {l:List UInt8}(h0:Zad 40 l=false)(h:Zad 39 l=true):Zhl l=if Zad 39 ((l.drop 1).drop (Zbd Zc0 (l.drop 1))) then some (.txt ((l.drop 1).take (Zbd Zc0 (l.drop 1))),((l.drop 1).drop (Zbd Zc0 (l.drop 1))).drop 1) else none:=by
 unfold Zhl
 rw[rdV,h0,h]
 simp only[Bool.false_eq_true,if_false,if_true]
theorem Zwk {l:List UInt8}(h0:Zad 40 l=false)(h:Zad 39 l=false):Zhl l=(Zfm (l.take (Zcd l))).map fun z=>(.num z,l.drop (Zcd l)):=by
 unfold Zhl
 rw[rdV,h0,h]
 simp only[Bool.false_eq_true,if_false]
 cases Zfm (l.take (Zcd l))<;>rfl
def Zze (v:PV):Option (List PV×List UInt8)→Option (List PV×List UInt8)
 | none=>none
 | some (vs,r)=>some (v::vs,r)
theorem Zpu {b:Bool}{l:List UInt8}(h:Zad 41 l=true):Zky b l=some ([],l.drop 1):=by
 unfold Zky
 rw[rdL,h]
 simp only[if_true]
theorem Znr {l:List UInt8}(h:Zad 41 l=false)(h2:Zad 32 l=false):Zky false l=none:=by
 unfold Zky
 rw[rdL,h,h2]
 simp
theorem Zmm {b:Bool}{l:List UInt8}(h:Zad 41 l=false)(h2:b=false→Zad 32 l=true)(h3:Zhl (if b then l else l.drop 1)=none):Zky b l=none:=by
 unfold Zky
 rw[rdL,h]
 simp only[Bool.false_eq_true,if_false]
 have hc:¬ (b=false∧Zad 32 l=false):=fun g=>by rw[h2 g.1] at g;exact absurd g.2 (by decide)
 rw[if_neg hc]
 have hl:(if b then l else l.drop 1).length≤l.length:=by cases b<;>simp
 unfold Zhl at h3
 rw[Zq1 (2*l.length+1) (2*(if b then l else l.drop 1).length+1) _ (by omega) (by omega),h3]
theorem Zjt {b:Bool}{l:List UInt8}{v:PV}{r:List UInt8}(h:Zad 41 l=false)(h2:b=false→Zad 32 l=true)(h3:Zhl (if b then l else l.drop 1)=some (v,r)):Zky b l=Zze v (Zky false r):=by
 unfold Zky
 rw[rdL,h]
 simp only[Bool.false_eq_true,if_false]
 have hc:¬ (b=false∧Zad 32 l=false):=fun g=>by rw[h2 g.1] at g;exact absurd g.2 (by decide)
 rw[if_neg hc]
 have hl:(if b then l else l.drop 1).length≤l.length:=by cases b<;>simp
 unfold Zhl at h3
 have hr:=Zpt h3
 rw[Zq1 (2*l.length+1) (2*(if b then l else l.drop 1).length+1) _ (by omega) (by omega),h3]
 simp only
 rw[Zmn (2*l.length+1) (2*r.length+2) false r (by omega) (by omega)]
 cases rdL (2*r.length+2) false r with
 | none=>rfl
 | some x=>rfl
def Zr6 (us:List PV):Option (List PV×List UInt8)→Option (List PV×List UInt8)
 | none=>none
 | some (vs,r)=>some (us++vs,r)
theorem Zop (us:List PV)(v:PV)(o:Option (List PV×List UInt8)):Zr6 us (Zze v o)=Zr6 (us++[v]) o:=by
 cases o with
 | none=>rfl
 | some x=>simp[Zr6,Zze]
theorem Zw7 (o:Option (List PV×List UInt8)):Zr6 [] o=o:=by
 cases o with
 | none=>rfl
 | some x=>rfl
theorem Zqz (l:List UInt8):Zfv l=match Zhl l with
  | some (v,r)=>if r=[]∧wtV v≤600 then some v else none
  | none=>none:=rfl
mutual
theorem Zqd:∀v:PV,wtV v≤(wrV v).length
 | .num z=>by rw[wtV,wrV];exact List.length_pos_iff.2 (Z17 z)
 | .txt b=>by rw[wtV,wrV];simp;omega
 | .lst l=>by
  rw[wtV,wrV]
  cases l with
  | nil=>simp[Zbh,Zgm]
  | cons v r =>
   have h1:=Zqd v
   have h2:=Zsa r
   rw[Zbh,Zgm]
   simp
   omega
theorem Zsa:∀l:List PV,Zbh l≤(wrT l).length
 | []=>by simp[Zbh,wrT]
 | v::r=>by
  have h1:=Zqd v
  have h2:=Zsa r
  rw[Zbh,wrT]
  simp
  omega
end
theorem rdVx_wt {l:List UInt8}{v:PV}{r:List UInt8}(h:Zhl l=some (v,r)):wtV v≤l.length∧okV v:=by
 obtain⟨e,o⟩:=Zwl _ _ _ _ h
 refine⟨?_,o⟩
 have:=Zqd v
 rw[e]
 simp
 omega
end Go.Proofs.YtliapghpeoaonaaGreatDoor
