/-
  Plain functions on bytes and tokens: what the document says of tokens, grammar and names. No model in it.
-/
namespace Go.Proofs.YtliapghpeoaonaaGreatDoor
def blank (b:UInt8):Bool:=b==32 || b==10
def Zav (b:UInt8):Bool:=48≤b&&b≤57
def Zbp (b:UInt8):Bool:=97≤b&&b≤122
def Zc0 (b:UInt8):Bool:=32≤b&&b≤126&&b != 39
def Zbd (p:UInt8→Bool)(l:List UInt8):Nat:=(l.takeWhile p).length
theorem Zdb (p:UInt8→Bool)(l:List UInt8):Zbd p l≤l.length:=by
 unfold Zbd
 induction l with
 | nil=>simp
 | cons a l ih =>
  simp only[List.takeWhile_cons,List.length_cons]
  split<;>simp<;>omega
theorem Zb1 (p:UInt8→Bool)(a:UInt8)(l:List UInt8)(h:p a=true):Zbd p (a::l)=Zbd p l+1:=by simp[Zbd,h]
theorem Zhk (p:UInt8→Bool)(a:UInt8)(l:List UInt8)(h:p a=false):Zbd p (a::l)=0:=by simp[Zbd,h]
theorem Zkw (p:UInt8→Bool):∀(l:List UInt8) (i:Nat) (h:i<l.length),(∀j (hj:j<i),p (l[j]'(by omega))=true)→p l[i]=false→Zbd p l=i
 | [],i,h,_,_=>by simp at h
 | a::l,0,_,_,hf=>by simp at hf;simp[Zbd,hf]
 | a::l,i+1,h,ht,hf=>by
  have h0:=ht 0 (by omega)
  simp at h0
  have:=Zkw p l i (by simpa using h) (fun j hj=>by simpa using ht (j+1) (by omega)) (by simpa using hf)
  simp only[Zbd,List.takeWhile_cons,h0,if_true,List.length_cons] at this ⊢
  omega
theorem Zhz (p:UInt8→Bool):∀(l:List UInt8),(∀j (hj:j<l.length),p l[j]=true)→Zbd p l=l.length
 | [],_=>rfl
 | a::l,ht=>by
  have h0:=ht 0 (by simp)
  simp at h0
  have:=Zhz p l (fun j hj=>ht (j+1) (by simp;omega))
  rw[Zb1 p a l h0,this]
  rfl
inductive K where
 | eof | opn | cls | num | txt | word | bad
 deriving DecidableEq
def Zad (c:UInt8)(l:List UInt8):Bool:=l[0]?==some c
def Zaj (l:List UInt8):List UInt8:=if Zad 45 l then l.drop 1 else l
theorem Zki (l:List UInt8):(Zaj l).length≤l.length:=by
 unfold Zaj;split<;>simp
def Zg8 (l:List UInt8):Option Nat:=if 20<Zbd Zc0 (l.drop 1)∨Zad 39 ((l.drop 1).drop (Zbd Zc0 (l.drop 1)))=false then none else some (Zbd Zc0 (l.drop 1)+2)
def Znx (l:List UInt8):Option Nat:=if Zbd Zav (Zaj l)=0∨9<Zbd Zav (Zaj l) then none else some (l.length-(Zaj l).length+Zbd Zav (Zaj l))
def Zic (l:List UInt8):Option Nat:=if 8<Zbd Zbp l then none else some (Zbd Zbp l)
def Zb6 (k:K):Option Nat→K×Nat
 | none=>(.bad,0)
 | some n=>(k,n)
def Zal:List UInt8→K×Nat
 | []=>(.eof,0)
 | c::r =>
  if c==40 then (.opn,1)
  else if c==41 then (.cls,1)
  else if c==39 then Zb6 .txt (Zg8 (c::r))
  else if c==45 || Zav c then Zb6 .num (Znx (c::r))
  else if Zbp c then Zb6 .word (Zic (c::r))
  else (.bad,0)
structure Tok where
 k:K
 at_:Nat
 body:List UInt8
def Zah (s:List UInt8)(p:Nat):Tok :=
 let j:=p+Zbd blank (s.drop p)
 let m:=Zal (s.drop j)
 ⟨m.1,j,(s.drop j).take m.2⟩
inductive Za4 (s:List UInt8):Nat→List Tok→Prop where
 | last {p:Nat}:((Zah s p).k=.eof∨(Zah s p).k=.bad)→Za4 s p [Zah s p]
 | more {p:Nat} {ts:List Tok}:(Zah s p).k≠.eof→(Zah s p).k≠.bad→Za4 s ((Zah s p).at_+(Zah s p).body.length) ts→Za4 s p (Zah s p::ts)
theorem Zz8 {l:List UInt8}{n:Nat}(h:Zg8 l=some n):0<n∧n≤l.length:=by
 unfold Zg8 at h
 split at h
 ·cases h
 ·rename_i hh
  simp only[Option.some.injEq] at h
  have e:Zad 39 ((l.drop 1).drop (Zbd Zc0 (l.drop 1)))=true:=by
   cases g:Zad 39 ((l.drop 1).drop (Zbd Zc0 (l.drop 1)))
   ·exact absurd (Or.inr g) hh
   ·rfl
  simp only[Zad,List.getElem?_drop,beq_iff_eq] at e
  have:=(List.getElem?_eq_some_iff.1 e).1
  omega
theorem numL_pos {l:List UInt8}{n:Nat}(h:Znx l=some n):0<n∧n≤l.length:=by
 have h1:=Zki l
 have h2:=Zdb Zav (Zaj l)
 unfold Znx at h
 split at h
 ·cases h
 ·rename_i hh
  simp only[Option.some.injEq] at h
  omega
theorem wordL_le {l:List UInt8}{n:Nat}(h:Zic l=some n):n=Zbd Zbp l∧n≤l.length:=by
 have h2:=Zdb Zbp l
 unfold Zic at h
 split at h
 ·cases h
 ·simp only[Option.some.injEq] at h
  omega
theorem Zhp (l:List UInt8)(h1:(Zal l).1≠.eof)(h2:(Zal l).1≠.bad):0<(Zal l).2∧(Zal l).2≤l.length:=by
 cases l with
 | nil=>simp[Zal] at h1
 | cons c r =>
  simp only[Zal] at h1 h2 ⊢
  split
  ·simp
  split
  ·simp
  rename_i a1 a2
  simp only[a1,a2,if_false,Bool.false_eq_true] at h1 h2
  split
  ·rename_i a3
   simp only[a3,if_true] at h2
   cases g:Zg8 (c::r) with
   | none=>simp[g,Zb6] at h2
   | some n=>exact Zz8 g
  rename_i a3
  simp only[a3,if_false,Bool.false_eq_true] at h1 h2
  split
  ·rename_i a4
   simp only[a4,if_true] at h2
   cases g:Znx (c::r) with
   | none=>simp[g,Zb6] at h2
   | some n=>exact numL_pos g
  rename_i a4
  simp only[a4,if_false,Bool.false_eq_true] at h1 h2
  split
  ·rename_i a5
   simp only[a5,if_true] at h2
   cases g:Zic (c::r) with
   | none=>simp[g,Zb6] at h2
   | some n =>
    have e:=wordL_le g
    have:=Zb1 Zbp c r a5
    simp only[Zb6]
    omega
  ·rename_i a5
   simp[a5] at h2
theorem Zdo {k x:K}{o:Option Nat}(h:(Zb6 k o).1=x)(hx:x≠.bad):k=x∧∃n,o=some n∧(Zb6 k o).2=n:=by
 cases o with
 | none=>exact absurd h.symm hx
 | some n=>exact⟨h,n,rfl,rfl⟩
theorem Zlv (l:List UInt8)(h:(Zal l).1=.txt):2≤(Zal l).2:=by
 cases l with
 | nil=>simp[Zal] at h
 | cons c r =>
  simp only[Zal] at h ⊢
  split at h
  ·cases h
  split at h
  ·cases h
  rename_i a1 a2
  simp only[a1,a2,if_false,Bool.false_eq_true]
  split at h
  ·rename_i a3
   simp only[a3,if_true]
   obtain⟨_,n,h1,h2⟩:=Zdo h (by decide)
   rw[h2]
   unfold Zg8 at h1
   split at h1
   ·cases h1
   ·simp only[Option.some.injEq] at h1
    omega
  split at h
  ·exact absurd (Zdo h (by decide)).1 (by decide)
  split at h
  ·exact absurd (Zdo h (by decide)).1 (by decide)
  ·cases h
theorem Zlw (l:List UInt8)(h:(Zal l).1=.eof):l=[]∧(Zal l).2=0:=by
 cases l with
 | nil=>exact⟨rfl,rfl⟩
 | cons c r =>
  simp only[Zal] at h
  split at h
  ·cases h
  split at h
  ·cases h
  split at h
  ·exact absurd (Zdo h (by decide)).1 (by decide)
  split at h
  ·exact absurd (Zdo h (by decide)).1 (by decide)
  split at h
  ·exact absurd (Zdo h (by decide)).1 (by decide)
  ·cases h
theorem Zgz (s:List UInt8)(p:Nat)(hp:p≤s.length)(h1:(Zah s p).k≠.eof)(h2:(Zah s p).k≠.bad):
  p<(Zah s p).at_+(Zah s p).body.length∧(Zah s p).at_+(Zah s p).body.length≤s.length∧(Zah s p).body.length=(Zal (s.drop (Zah s p).at_)).2∧p≤(Zah s p).at_:=by
 have hm:=Zhp (s.drop (p+Zbd blank (s.drop p))) h1 h2
 have hr:=Zdb blank (s.drop p)
 simp only[List.length_drop] at hm hr
 simp only[Zah,List.length_take,List.length_drop]
 omega
theorem Zyk (s:List UInt8)(p:Nat)(hp:p≤s.length):p≤(Zah s p).at_∧(Zah s p).at_≤s.length:=by
 have hr:=Zdb blank (s.drop p)
 simp only[List.length_drop] at hr
 simp only[Zah]
 omega
theorem Zg0 (s:List UInt8):∀(n p:Nat),p≤s.length→s.length-p≤n→∃ts,Za4 s p ts
 | n,p,hp,hn=>by
  by_cases h1:(Zah s p).k=.eof
  ·exact⟨_,.last (Or.inl h1)⟩
  by_cases h2:(Zah s p).k=.bad
  ·exact⟨_,.last (Or.inr h2)⟩
  obtain⟨g1,g2,_⟩:=Zgz s p hp h1 h2
  cases n with
  | zero=>omega
  | succ n =>
   obtain⟨ts,ht⟩:=Zg0 s n _ g2 (by omega)
   exact⟨_,.more h1 h2 ht⟩
theorem Za4.len {s:List UInt8}:∀{p:Nat} {ts:List Tok},Za4 s p ts→p≤s.length→ts.length+p≤s.length+1:=by
 intro p ts h
 induction h with
 | last _=>intro hp;simp;omega
 | more h1 h2 _ ih =>
  intro hp
  obtain⟨g1,g2,_⟩:=Zgz s _ hp h1 h2
  have:=ih g2
  simp;omega
theorem Za4.ne {s:List UInt8}{p:Nat}{ts:List Tok}(h:Za4 s p ts):∃t r,ts=t::r:=by
 cases h with
 | last _=>exact⟨_,_,rfl⟩
 | more _ _ _=>exact⟨_,_,rfl⟩
theorem Zrd (s:List UInt8)(p:Nat)(hp:p<s.length)(hb:blank s[p]=true):Zah s p=Zah s (p+1):=by
 have e:s.drop p=s[p]::s.drop (p+1):=List.drop_eq_getElem_cons hp
 have e2:Zbd blank (s.drop p)=Zbd blank (s.drop (p+1))+1:=by rw[e];exact Zb1 blank _ _ hb
 simp only[Zah,e2]
 rw[show p+(Zbd blank (s.drop (p+1))+1)=p+1+Zbd blank (s.drop (p+1)) by omega]
theorem Za4.blank {s:List UInt8}{p:Nat}{ts:List Tok}(h:Za4 s p ts)(hp:p<s.length)(hb:blank s[p]=true):Za4 s (p+1) ts:=by
 have e:=Zrd s p hp hb
 cases h with
 | last h=>rw[e] at h ⊢;exact .last h
 | more h1 h2 h3=>rw[e] at h1 h2 h3 ⊢;exact .more h1 h2 h3
theorem Zlt (s:List UInt8)(p:Nat)(h:∀hp:p<s.length,blank s[p]=false):Zah s p=⟨(Zal (s.drop p)).1,p,(s.drop p).take (Zal (s.drop p)).2⟩:=by
 have:Zbd blank (s.drop p)=0:=by
  by_cases hp:p<s.length
  ·rw[List.drop_eq_getElem_cons hp];exact Zhk blank _ _ (h hp)
  ·rw[List.drop_eq_nil_of_le (by omega)];rfl
 simp[Zah,this]
def Za3 (l:List UInt8):Option (Bool×Int) :=
 if l==[108,105,115,116] then some (false,-1)
 else if l==[99,97,108,108] then some (true,-1)
 else if l==[109,97,112] then some (true,1)
 else if l==[108,101,116] then some (true,2)
 else if l==[105,102] then some (false,3)
 else if l==[115,101,116] then some (false,3)
 else if l==[108,101,110] then some (false,1)
 else if l==[97,100,100] then some (false,2)
 else if l==[115,117,98] then some (false,2)
 else if l==[109,117,108] then some (false,2)
 else if l==[101,113] then some (false,2)
 else if l==[108,101,115,115] then some (false,2)
 else if l==[97,116] then some (false,2)
 else if l==[106,111,105,110] then some (false,2)
 else none
def Zci (l:List UInt8):Bool:=(Za3 l).isSome || l==[102,117,110]
theorem Zdx (l:List UInt8):l=[108,105,115,116]∨l=[99,97,108,108]∨l=[109,97,112]∨l=[108,101,116]∨l=[105,102]∨l=[115,101,116]∨l=[108,101,110]∨l=[97,100,100]∨l=[115,117,98]∨l=[109,117,108]∨l=[101,113]∨l=[108,101,115,115]∨l=[97,116]∨l=[106,111,105,110]∨(Za3 l=none∧(l==[108,105,115,116])=false∧(l==[99,97,108,108])=false∧(l==[109,97,112])=false∧(l==[108,101,116])=false∧(l==[105,102])=false∧(l==[115,101,116])=false∧(l==[108,101,110])=false∧(l==[97,100,100])=false∧(l==[115,117,98])=false∧(l==[109,117,108])=false∧(l==[101,113])=false∧(l==[108,101,115,115])=false∧(l==[97,116])=false∧(l==[106,111,105,110])=false):=by
 by_cases h0:l=[108,105,115,116]
 ·simp[h0]
 by_cases h1:l=[99,97,108,108]
 ·simp[h1]
 by_cases h2:l=[109,97,112]
 ·simp[h2]
 by_cases h3:l=[108,101,116]
 ·simp[h3]
 by_cases h4:l=[105,102]
 ·simp[h4]
 by_cases h5:l=[115,101,116]
 ·simp[h5]
 by_cases h6:l=[108,101,110]
 ·simp[h6]
 by_cases h7:l=[97,100,100]
 ·simp[h7]
 by_cases h8:l=[115,117,98]
 ·simp[h8]
 by_cases h9:l=[109,117,108]
 ·simp[h9]
 by_cases h10:l=[101,113]
 ·simp[h10]
 by_cases h11:l=[108,101,115,115]
 ·simp[h11]
 by_cases h12:l=[97,116]
 ·simp[h12]
 by_cases h13:l=[106,111,105,110]
 ·simp[h13]
 have g:Za3 l=none:=by simp[Za3,h0,h1,h2,h3,h4,h5,h6,h7,h8,h9,h10,h11,h12,h13]
 simp[g,h0,h1,h2,h3,h4,h5,h6,h7,h8,h9,h10,h11,h12,h13]
theorem Zem {l:List UInt8}{b:Bool}{m:Int}(h:Za3 l=some (b,m)):-1≤m∧m≤3:=by
 rcases Zdx l with g | g | g | g | g | g | g | g | g | g | g | g | g | g | ⟨g,_⟩
 all_goals first
  |(subst g;simp[Za3] at h;omega)
  |(rw[g] at h;cases h)
inductive Res (α:Type) where
 | ok (a:α) (rest:List Tok)
 | err (c at_:Nat)
inductive Ex where
 | num (b:List UInt8)
 | txt (b:List UInt8)
 | var (n:List UInt8) (at_:Nat)
 | form (w n:List UInt8) (at_:Nat) (kids:List Ex)
def Zj5 (l:List UInt8):List UInt8:=(l.drop 1).take (l.length-2)
def Zbg (t:Tok):Bool:=decide (t.k=.word) && !Zci t.body
def Zee (t:Tok):Option (Bool×Int):=if t.k=.word then Za3 t.body else none
def Zie (w n:List UInt8)(at_:Nat):Res (List Ex)→Res Ex
 | .ok ks r=>.ok (.form w n at_ ks) r
 | .err c a=>.err c a
def pF (L:Nat→Int→List Tok→Res (List Ex))(d:Nat):List Tok→Res Ex
 | []=>.err 0 0
 | t::ts=>match Zee t with
  | none=>.err 2 t.at_
  | some (false,n)=>Zie t.body [] t.at_ (L d n ts)
  | some (true,n)=>match ts with
   | []=>.err 0 0
   | u::us=>if Zbg u then Zie t.body u.body u.at_ (L d n us) else .err 2 u.at_
def pE (L:Nat→Int→List Tok→Res (List Ex))(d:Nat):List Tok→Res Ex
 | []=>.err 0 0
 | t::ts=>match t.k with
  | .num=>.ok (.num t.body) ts
  | .txt=>.ok (.txt (Zj5 t.body)) ts
  | .word=>if Zci t.body then .err 2 t.at_ else .ok (.var t.body t.at_) ts
  | .opn=>if d=16 then .err 3 t.at_ else pF L (d+1) ts
  | _=>.err 2 t.at_
def Zgh (e:Ex):Res (List Ex)→Res (List Ex)
 | .ok es r=>.ok (e::es) r
 | .err c a=>.err c a
def pL:Nat→Nat→Int→List Tok→Res (List Ex)
 | 0,_,_,_=>.err 0 0
 | _+1,_,_,[]=>.err 0 0
 | f+1,d,m,t::ts =>
  if m=0∨(m<0∧t.k=.cls) then (if t.k=.cls then .ok [] ts else .err 2 t.at_)
  else match pE (pL f) d (t::ts) with
   | .err c a=>.err c a
   | .ok e r=>Zgh e (pL f d (if m<0 then m else m-1) r)
theorem pF_len {L:Nat→Int→List Tok→Res (List Ex)}(hL:∀d m ts es r,L d m ts=.ok es r→r.length<ts.length){d:Nat}{ts:List Tok}{e:Ex}{r:List Tok}(h:pF L d ts=.ok e r):r.length<ts.length:=by
 cases ts with
 | nil=>cases h
 | cons t ts =>
  simp only[pF] at h
  split at h
  ·cases h
  ·rename_i n _
   cases g:L d n ts with
   | err c a=>rw[g] at h;cases h
   | ok ks r' =>
    rw[g] at h
    cases h
    have:=hL _ _ _ _ _ g
    simp;omega
  ·rename_i n _
   cases ts with
   | nil=>cases h
   | cons u us =>
    simp only at h
    split at h
    ·cases g:L d n us with
     | err c a=>rw[g] at h;cases h
     | ok ks r' =>
      rw[g] at h
      cases h
      have:=hL _ _ _ _ _ g
      simp;omega
    ·cases h
theorem Zws {L:Nat→Int→List Tok→Res (List Ex)}(hL:∀d m ts es r,L d m ts=.ok es r→r.length<ts.length){d:Nat}{ts:List Tok}{e:Ex}{r:List Tok}(h:pE L d ts=.ok e r):r.length<ts.length:=by
 cases ts with
 | nil=>cases h
 | cons t ts =>
  simp only[pE] at h
  split at h
  ·cases h;simp
  ·cases h;simp
  ·split at h
   ·cases h
   ·cases h;simp
  ·split at h
   ·cases h
   ·have:=pF_len hL h
    simp;omega
  ·cases h
theorem Zpy:∀(f d:Nat) (m:Int) (ts:List Tok) (es:List Ex) (r:List Tok),pL f d m ts=.ok es r→r.length<ts.length
 | 0,_,_,_,_,_,h=>by cases h
 | f+1,_,_,[],_,_,h=>by cases h
 | f+1,d,m,t::ts,es,r,h=>by
  simp only[pL] at h
  split at h
  ·split at h
   ·cases h;simp
   ·cases h
  ·cases g:pE (pL f) d (t::ts) with
   | err c a=>rw[g] at h;cases h
   | ok e r' =>
    rw[g] at h
    have h1:=Zws (fun d m ts es r=>Zpy f d m ts es r) g
    cases g2:pL f d (if m<0 then m else m-1) r' with
    | err c a=>simp only[g2,Zgh] at h;cases h
    | ok es' r'' =>
     simp only[g2,Zgh] at h
     cases h
     have:=Zpy f _ _ _ _ _ g2
     omega
def Zig (n:List UInt8×Nat):Res (List (List UInt8×Nat))→Res (List (List UInt8×Nat))
 | .ok ns r=>.ok (n::ns) r
 | .err c a=>.err c a
def pP:List Tok→Res (List (List UInt8×Nat))
 | []=>.err 0 0
 | t::ts=>if t.k=.cls then .ok [] ts else if Zbg t then Zig (t.body,t.at_) (pP ts) else .err 2 t.at_
theorem Z03:∀(ts:List Tok) (ns:List (List UInt8×Nat)) (r:List Tok),pP ts=.ok ns r→r.length<ts.length
 | [],_,_,h=>by cases h
 | t::ts,ns,r,h=>by
  simp only[pP] at h
  split at h
  ·cases h;simp
  ·split at h
   ·cases g:pP ts with
    | err c a=>simp only[g,Zig] at h;cases h
    | ok ns' r' =>
     simp only[g,Zig] at h
     cases h
     have:=Z03 ts _ _ g
     simp;omega
   ·cases h
def Zor (pre:List Ex):Res (List Ex)→Res (List Ex)
 | .ok es r=>.ok (pre++es) r
 | .err c a=>.err c a
theorem Zoq (pre:List Ex)(e:Ex)(r:Res (List Ex)):Zor pre (Zgh e r)=Zor (pre++[e]) r:=by cases r<;>simp[Zor,Zgh]
theorem pL_bad {f d:Nat}{m:Int}{t:Tok}{ts:List Tok}(hk:t.k=.bad):pL (f+1) d m (t::ts)=.err 2 t.at_:=by
 by_cases h:m=0<;>simp[pL,h,hk,pE]
def Znh (f d:Nat)(m:Int):Res Ex→Res (List Ex)
 | .err c a=>.err c a
 | .ok e r=>Zgh e (pL f d (if m<0 then m else m-1) r)
theorem Znv {f d:Nat}{m:Int}{t:Tok}{ts:List Tok}(h0:¬ m=0)(hc:m<0→t.k≠.cls):pL (f+1) d m (t::ts)=Znh f d m (pE (pL f) d (t::ts)):=by
 have:¬ (m=0∨(m<0∧t.k=.cls)):=by
  rintro (g | ⟨g1,g2⟩)
  ·exact h0 g
  ·exact hc g1 g2
 simp only[pL,this,if_false]
 cases pE (pL f) d (t::ts)<;>rfl
theorem Zgv {f d:Nat}{m:Int}{t:Tok}{ts:List Tok}(h:m=0∨(m<0∧t.k=.cls)):pL (f+1) d m (t::ts)=if t.k=.cls then .ok [] ts else .err 2 t.at_:=by
 simp only[pL,h,if_true]
structure Fn where
 name:List UInt8
 at_:Nat
 params:List (List UInt8×Nat)
 body:Ex
def Zg5 (t:Tok):Bool:=decide (t.k=.word)&&t.body==[102,117,110]
def Zr2 (name:List UInt8)(at_:Nat)(ns:List (List UInt8×Nat)):Res (List Ex)→Res Fn
 | .ok (b::_) r=>.ok ⟨name,at_,ns,b⟩ r
 | .ok [] _=>.err 0 0
 | .err c a=>.err c a
def Zdy (g:Nat)(name:List UInt8)(at_:Nat):Res (List (List UInt8×Nat))→Res Fn
 | .ok ns r=>Zr2 name at_ ns (pL g 1 1 r)
 | .err c a=>.err c a
def Zfd (g:Nat):List Tok→Res Fn
 | t::u::n::o::ts=>if t.k≠.opn then .err 2 t.at_ else if Zg5 u=false then .err 2 u.at_ else if Zbg n=false then .err 2 n.at_ else if o.k≠.opn then .err 2 o.at_ else Zdy g n.body n.at_ (pP ts)
 | t::u::n::_=>if t.k≠.opn then .err 2 t.at_ else if Zg5 u=false then .err 2 u.at_ else .err 2 n.at_
 | t::u::_=>if t.k≠.opn then .err 2 t.at_ else .err 2 u.at_
 | t::_=>.err 2 t.at_
 | []=>.err 0 0
def Zk8 (f:Fn):Res (List Fn)→Res (List Fn)
 | .ok fs r=>.ok (f::fs) r
 | .err c a=>.err c a
def Zb7:Nat→List Tok→Res (List Fn)
 | 0,_=>.err 0 0
 | _+1,[]=>.err 0 0
 | f+1,t::ts=>if t.k=.eof then .ok [] ts else match Zfd (f+1) (t::ts) with
  | .err c a=>.err c a
  | .ok fn r=>Zk8 fn (Zb7 f r)
theorem Zwr {g:Nat}{ts:List Tok}{fn:Fn}{r:List Tok}(h:Zfd g ts=.ok fn r):r.length<ts.length:=by
 match ts,h with
 | t::u::n::o::ts,h =>
  simp only[Zfd] at h
  split at h
  ·cases h
  split at h
  ·cases h
  split at h
  ·cases h
  split at h
  ·cases h
  cases e:pP ts with
  | err c a=>rw[e] at h;cases h
  | ok ns r1 =>
   rw[e] at h
   simp only[Zdy] at h
   have h1:=Z03 _ _ _ e
   cases e2:pL g 1 1 r1 with
   | err c a=>rw[e2] at h;cases h
   | ok es r2 =>
    rw[e2] at h
    have h2:=Zpy _ _ _ _ _ _ e2
    cases es with
    | nil=>cases h
    | cons b l =>
     cases h
     simp
     omega
 | [t,u,n],h =>
  simp only[Zfd] at h
  split at h
  ·cases h
  split at h<;>cases h
 | [t,u],h =>
  simp only[Zfd] at h
  split at h<;>cases h
 | [t],h=>cases h
 | [],h=>cases h
def Zc9 (fs:List (List UInt8×Nat))(n:List UInt8):Option Nat:=(fs.find? fun x=>x.1==n).map (·.2)
def Zcb (fs:List (List UInt8×Nat))(n:List UInt8)(at_ c:Nat):Option (Nat×Nat) :=
 match Zc9 fs n with
 | none=>some (4,at_)
 | some k=>if k=c then none else some (6,at_)
def orE (a b:Option (Nat×Nat)):Option (Nat×Nat):=match a with | some x=>some x | none=>b
mutual
def nmE (fs:List (List UInt8×Nat))(scope:List (List UInt8)):Ex→Option (Nat×Nat)
 | .num _=>none
 | .txt _=>none
 | .var n a=>if scope.contains n then none else some (4,a)
 | .form w n a ks =>
  if w==[99,97,108,108] || w==[109,97,112] then orE (Zcb fs n a ks.length) (Zfu fs scope ks)
  else if w==[108,101,116] then Zq9 fs scope n ks
  else Zfu fs scope ks
def Zfu (fs:List (List UInt8×Nat))(scope:List (List UInt8)):List Ex→Option (Nat×Nat)
 | []=>none
 | e::es=>orE (nmE fs scope e) (Zfu fs scope es)
def Zq9 (fs:List (List UInt8×Nat))(scope:List (List UInt8))(n:List UInt8):List Ex→Option (Nat×Nat)
 | []=>none
 | x::r=>orE (nmE fs scope x) (Zfu fs (scope++[n]) r)
end
mutual
def szE:Ex→Nat
 | .num _=>1
 | .txt _=>1
 | .var _ _=>1
 | .form _ _ _ ks=>Zes ks+1
def Zes:List Ex→Nat
 | []=>0
 | e::es=>szE e+Zes es+1
end
theorem Zks:∀(es:List Ex) (j:Nat) (hj:j<es.length),szE es[j]+1≤Zes es
 | [],j,hj=>by simp at hj
 | e::es,0,_=>by rw[Zes];simp
 | e::es,j+1,hj=>by rw[Zes];have:=Zks es j (by simpa using hj);simp;omega
theorem Zmh:∀(es:List Ex),es.length≤Zes es
 | []=>by simp
 | e::es=>by rw[Zes];have:=Zmh es;simp;omega
theorem Z1q (fs:List (List UInt8×Nat))(scope:List (List UInt8))(es:List Ex)(j:Nat)(hj:j<es.length):Zfu fs scope (es.drop j)=orE (nmE fs scope es[j]) (Zfu fs scope (es.drop (j+1))):=by
 rw[List.drop_eq_getElem_cons hj,Zfu]
theorem orE_none (a:Option (Nat×Nat)):orE a none=a:=by cases a<;>rfl
theorem Zrc (fs:List (List UInt8×Nat))(sc:List (List UInt8))(x:Ex):Zfu fs sc [x]=nmE fs sc x:=by rw[Zfu,Zfu,orE_none]
theorem Zj0 {fs:List (List UInt8×Nat)}{sc:List (List UInt8)}{wd n:List UInt8}{a:Nat}{ks:List Ex}(h1:wd≠[99,97,108,108])(h2:wd≠[109,97,112])(h3:wd≠[108,101,116]):nmE fs sc (.form wd n a ks)=Zfu fs sc ks:=by
 rw[nmE]
 simp[h1,h2,h3]
def Zi9 (seen:List (List UInt8)):List (List UInt8×Nat)→Option Nat
 | []=>none
 | x::r=>if seen.contains x.1 then some x.2 else Zi9 (seen++[x.1]) r
def Zj1 (fs:List (List UInt8×Nat))(fn:Fn):Option (Nat×Nat) :=
 if (Zc9 fs fn.name).isSome then some (5,fn.at_)
 else match Zi9 [] fn.params with
  | some p=>some (5,p)
  | none=>nmE fs (fn.params.map (·.1)) fn.body
def Za5 (fn:Fn):List UInt8×Nat:=(fn.name,fn.params.length)
def Zdr (fs:List (List UInt8×Nat)):List Fn→Option (Nat×Nat)
 | []=>none
 | fn::r=>match Zj1 fs fn with
  | some e=>some e
  | none=>Zdr (fs++[Za5 fn]) r
def Zzu (wd:List UInt8)(k:Nat)(fns:List Fn):Bool:=fns.any fun fn=>fn.name==wd&&fn.params.length==k
def Zyv (fns:List Fn):Bool:=Zzu [105,110,105,116] 0 fns&&Zzu [117,112,100,97,116,101] 2 fns&&Zzu [118,105,101,119] 1 fns
def Z26 (c:Nat):Nat:=if c=3 then 3 else 2
def Zrz (c:Nat):Nat:=if c=4 then 4 else if c=6 then 6 else 5
def chk (n:Nat):Res (List Fn)→Option (Nat×Nat)
 | .err c a=>some (Z26 c,a)
 | .ok fns _=>match Zdr [] fns with
  | some e=>some (Zrz e.1,e.2)
  | none=>if Zyv fns then none else some (7,n)
def Zbx (n:Nat)(ts:List Tok):Option (Nat×Nat):=if 2000<n then some (1,0) else chk n (Zb7 (ts.length+1) ts)
mutual
def WfE:Ex→Prop
 | .num _=>True
 | .txt _=>True
 | .var _ _=>True
 | .form w _ _ ks=>(∃b m,Za3 w=some (b,m)∧(0≤m→(ks.length:Int)=m))∧Zp9 ks
def Zp9:List Ex→Prop
 | []=>True
 | e::es=>WfE e∧Zp9 es
end
theorem pF_wf {L:Nat→Int→List Tok→Res (List Ex)}(hL:∀d m ts es r,L d m ts=.ok es r→(0≤m→(es.length:Int)=m)∧Zp9 es){d:Nat}{ts:List Tok}{e:Ex}{r:List Tok}(h:pF L d ts=.ok e r):WfE e:=by
 cases ts with
 | nil=>cases h
 | cons t ts =>
  simp only[pF] at h
  have hsh:∀x,Zee t=some x→Za3 t.body=some x:=by
   intro x hx
   unfold Zee at hx
   split at hx
   ·exact hx
   ·cases hx
  split at h
  ·cases h
  ·rename_i n hn
   cases g:L d n ts with
   | err c a=>rw[g] at h;cases h
   | ok ks r' =>
    rw[g] at h
    cases h
    obtain⟨h1,h2⟩:=hL _ _ _ _ _ g
    rw[WfE]
    exact⟨⟨_,_,hsh _ hn,h1⟩,h2⟩
  ·rename_i n hn
   cases ts with
   | nil=>cases h
   | cons u us =>
    simp only at h
    split at h
    ·cases g:L d n us with
     | err c a=>rw[g] at h;cases h
     | ok ks r' =>
      rw[g] at h
      cases h
      obtain⟨h1,h2⟩:=hL _ _ _ _ _ g
      rw[WfE]
      exact⟨⟨_,_,hsh _ hn,h1⟩,h2⟩
    ·cases h
theorem pE_wf {L:Nat→Int→List Tok→Res (List Ex)}(hL:∀d m ts es r,L d m ts=.ok es r→(0≤m→(es.length:Int)=m)∧Zp9 es){d:Nat}{ts:List Tok}{e:Ex}{r:List Tok}(h:pE L d ts=.ok e r):WfE e:=by
 cases ts with
 | nil=>cases h
 | cons t ts =>
  simp only[pE] at h
  split at h
  ·cases h;rw[WfE];trivial
  ·cases h;rw[WfE];trivial
  ·split at h
   ·cases h
   ·cases h;rw[WfE];trivial
  ·split at h
   ·cases h
   ·exact pF_wf hL h
  ·cases h
theorem pL_wf:∀(f d:Nat) (m:Int) (ts:List Tok) (es:List Ex) (r:List Tok),pL f d m ts=.ok es r→(0≤m→(es.length:Int)=m)∧Zp9 es
 | 0,_,_,_,_,_,h=>by cases h
 | f+1,_,_,[],_,_,h=>by cases h
 | f+1,d,m,t::ts,es,r,h=>by
  simp only[pL] at h
  split at h
  ·rename_i hc
   split at h
   ·cases h
    refine⟨fun h0=>?_,by rw[Zp9];trivial⟩
    rcases hc with hc | hc
    ·simp[hc]
    ·omega
   ·cases h
  ·cases g:pE (pL f) d (t::ts) with
   | err c a=>rw[g] at h;cases h
   | ok e r' =>
    rw[g] at h
    have h1:=pE_wf (fun d m ts es r=>pL_wf f d m ts es r) g
    cases g2:pL f d (if m<0 then m else m-1) r' with
    | err c a=>simp only[g2,Zgh] at h;cases h
    | ok es' r'' =>
     simp only[g2,Zgh] at h
     cases h
     obtain⟨h2,h3⟩:=pL_wf f _ _ _ _ _ g2
     refine⟨fun h0=>?_,by rw[Zp9];exact⟨h1,h3⟩⟩
     have:¬ m<0:=by omega
     rw[if_neg this] at h2
     rename_i hnc
     have hm0:¬ m=0:=fun e=>hnc (Or.inl e)
     have:=h2 (by omega)
     simp;omega
theorem Z06 {G:Nat}{ts:List Tok}{fn:Fn}{r:List Tok}(h:Zfd G ts=.ok fn r):WfE fn.body:=by
 match ts,h with
 | t::u::n::o::ts,h =>
  simp only[Zfd] at h
  split at h
  ·cases h
  split at h
  ·cases h
  split at h
  ·cases h
  split at h
  ·cases h
  cases e:pP ts with
  | err c a=>rw[e] at h;cases h
  | ok ns r1 =>
   rw[e] at h
   simp only[Zdy] at h
   cases e2:pL G 1 1 r1 with
   | err c a=>rw[e2] at h;cases h
   | ok es r2 =>
    rw[e2] at h
    have h2:=(pL_wf _ _ _ _ _ _ e2).2
    cases es with
    | nil=>cases h
    | cons b l =>
     cases h
     rw[Zp9] at h2
     exact h2.1
 | [t,u,n],h =>
  simp only[Zfd] at h
  split at h
  ·cases h
  split at h<;>cases h
 | [t,u],h =>
  simp only[Zfd] at h
  split at h<;>cases h
 | [t],h=>cases h
 | [],h=>cases h
def nmK (fs:List (List UInt8×Nat))(scope:List (List UInt8))(wd n:List UInt8):Nat→List Ex→Option (Nat×Nat)
 | _,[]=>none
 | i,e::es=>orE (nmE fs (if (wd==[108,101,116]&&i==1) then scope++[n] else scope) e) (nmK fs scope wd n (i+1) es)
theorem Zte {fs:List (List UInt8×Nat)}{scope:List (List UInt8)}{wd n:List UInt8}(h:(wd==[108,101,116])=false):∀(i:Nat) (ks:List Ex),nmK fs scope wd n i ks=Zfu fs scope ks
 | _,[]=>by rw[nmK,Zfu]
 | i,e::es=>by rw[nmK,Zfu,Zte h (i+1) es,h];simp
theorem nmE_form {fs:List (List UInt8×Nat)}{scope:List (List UInt8)}{wd n:List UInt8}{a:Nat}{ks:List Ex}(hw:WfE (.form wd n a ks)):
  nmE fs scope (.form wd n a ks)=if (wd==[99,97,108,108] || wd==[109,97,112]) then orE (Zcb fs n a ks.length) (nmK fs scope wd n 0 ks) else nmK fs scope wd n 0 ks:=by
 rw[nmE]
 cases hl:wd==[108,101,116] with
 | false=>rw[Zte hl];simp
 | true =>
  have hwd:wd=[108,101,116]:=by simpa using hl
  subst hwd
  rw[WfE] at hw
  obtain⟨⟨b,m,h1,h2⟩,_⟩:=hw
  simp[Za3] at h1
  obtain⟨rfl,rfl⟩:=h1
  have h3:=h2 (by decide)
  match ks,h3 with
  | [x,y],_=>simp[Zq9,nmK,Zfu]
theorem Zra (fs:List (List UInt8×Nat))(scope:List (List UInt8))(wd n:List UInt8)(ks:List Ex)(i:Nat)(hi:i<ks.length):nmK fs scope wd n i (ks.drop i)=orE (nmE fs (if (wd==[108,101,116]&&i==1) then scope++[n] else scope) ks[i]) (nmK fs scope wd n (i+1) (ks.drop (i+1))):=by
 rw[List.drop_eq_getElem_cons hi,nmK]
theorem Zr8:∀(es:List Ex) (j:Nat) (hj:j<es.length),Zp9 es→WfE es[j]
 | [],j,hj,_=>by simp at hj
 | e::es,0,_,h=>by rw[Zp9] at h;exact h.1
 | e::es,j+1,hj,h=>by rw[Zp9] at h;exact Zr8 es j (by simpa using hj) h.2
end Go.Proofs.YtliapghpeoaonaaGreatDoor
