/-
  The reference: Read: plain facts: tokens are well formed; which numbers errors have.
-/
import Derived.Test.YtliapghpeoaonaaGreatDoorRefM
import Derived.Test.YtliapghpeoaonaaGreatDoorRefA
import Derived.Test.YtliapghpeoaonaaGreatDoorRefI
import Derived.Test.YtliapghpeoaonaaGreatDoorRefJ
import Derived.Deep.QuietTactic
set_option maxHeartbeats 8000000
set_option maxRecDepth 8000
namespace Go.Proofs.YtliapghpeoaonaaGreatDoor
open Go.Proofs.Tryz
open Go.RowKit
theorem Z19 {s:List UInt8}:∀{p:Nat} {ts:List Tok},Za4 s p ts→p≤s.length→∀j (hj:j<ts.length),∃q,q≤s.length∧ts[j]=Zah s q∧(ts[j].k≠.eof→ts[j].k≠.bad→j+1<ts.length):=by
 intro p ts h
 induction h with
 | last h0 =>
  intro hp j hj
  simp at hj
  subst hj
  refine⟨_,hp,rfl,fun h1 h2=>?_⟩
  rcases h0 with h0 | h0
  ·exact absurd h0 h1
  ·exact absurd h0 h2
 | @more p ts h1 h2 h3 ih =>
  intro hp j hj
  obtain⟨g1,g2,_⟩:=Zgz s p hp h1 h2
  cases j with
  | zero=>exact⟨p,hp,rfl,fun _ _=>by obtain⟨t,r,rfl⟩:=h3.ne;simp⟩
  | succ j =>
   obtain⟨q,q1,q2,q3⟩:=ih g2 j (by simpa using hj)
   exact⟨q,q1,q2,fun a b=>by have:=q3 a b;simp;omega⟩
theorem Ztl (l:List UInt8)(h:(Zal l).1=.bad):(Zal l).2=0:=by
 cases l with
 | nil=>simp[Zal] at h
 | cons c r =>
  simp only[Zal] at h ⊢
  have kb:∀(k:K) (o:Option Nat),k≠.bad→(Zb6 k o).1=.bad→(Zb6 k o).2=0:=by
   intro k o hk hh
   cases o with
   | none=>rfl
   | some n=>exact absurd hh hk
  split at h
  ·cases h
  split at h
  ·cases h
  rename_i a1 a2
  simp only[a1,a2,if_false,Bool.false_eq_true]
  split at h
  ·rename_i a3;simp only[a3,if_true];exact kb _ _ (by decide) h
  split at h
  ·rename_i a3 a4;simp only[a3,a4,if_true,if_false,Bool.false_eq_true];exact kb _ _ (by decide) h
  split at h
  ·rename_i a3 a4 a5;simp only[a3,a4,a5,if_true,if_false,Bool.false_eq_true];exact kb _ _ (by decide) h
  ·rename_i a3 a4 a5;simp only[a3,a4,a5,if_false,Bool.false_eq_true]
theorem Ztj {c:UInt8}{r:List UInt8}(h1:(Zal (c::r)).1≠.word)(h2:(Zal (c::r)).1≠.bad):Zbp c=false:=by
 cases hl:Zbp c with
 | false=>rfl
 | true =>
  obtain⟨b1,b2,b3,b4,b5⟩:=Zk2 hl
  exfalso
  simp only[Zal,b1,b2,b3,b4,b5,hl,Bool.false_or,Bool.false_eq_true,if_false,if_true] at h1 h2
  cases hw:Zic (c::r) with
  | none=>rw[hw] at h2;exact h2 rfl
  | some n=>rw[hw] at h1;exact h1 rfl
theorem Zss {b:List UInt8}{x:Bool×Int}(h:Za3 b=some x):∃c r,b=c::r∧Zbp c=true:=by
 rcases Zdx b with g | g | g | g | g | g | g | g | g | g | g | g | g | g | ⟨g,_⟩
 all_goals first
  |(subst g;exact⟨_,_,rfl,by decide⟩)
  |(rw[g] at h;cases h)
theorem Ztg (s:List UInt8)(q:Nat)(h:(Zah s q).k≠.word):Za3 (Zah s q).body=none:=by
 cases hs:Za3 (Zah s q).body with
 | none=>rfl
 | some x =>
  exfalso
  obtain⟨c,r,hb,hc⟩:=Zss hs
  simp only[Zah] at h hb
  cases hd:s.drop (q+Zbd blank (s.drop q)) with
  | nil=>rw[hd] at hb;simp at hb
  | cons c2 r2 =>
   rw[hd] at h hb
   by_cases hbad:(Zal (c2::r2)).1=.bad
   ·rw[Ztl _ hbad] at hb;simp at hb
   ·have hl:=Ztj h hbad
    cases hn:(Zal (c2::r2)).2 with
    | zero=>rw[hn] at hb;simp at hb
    | succ n =>
     rw[hn] at hb
     simp at hb
     rw[←hb.1,hl] at hc
     cases hc
theorem tokWF_of {s:ByteArray}(hs:s.size≤2000){l:List (Tok×ByteArray)}(hts:Za4 s.data.toList 0 (l.map (·.1)))(htx:Zdu l):Zfr l:=by
 have key:∀j (hj:j<l.length),∃q,q≤s.data.toList.length∧l[j].1=Zah s.data.toList q∧(l[j].1.k≠.eof→l[j].1.k≠.bad→j+1<l.length):=by
  intro j hj
  obtain⟨q,h1,h2,h3⟩:=Z19 hts (Nat.zero_le _) j (by simpa using hj)
  simp only[List.getElem_map,List.length_map] at h2 h3
  exact⟨q,h1,h2,h3⟩
 have hsz:∀j (hj:j<l.length),l[j].2.size=l[j].1.body.length:=fun j hj=>by
  rw[←htx _ (List.getElem_mem hj),Zj4]
 have hle:∀q,(Zah s.data.toList q).body.length≤s.size:=fun q=>by
  simp only[Zah,List.length_take,List.length_drop,Zj4];omega
 refine⟨htx,fun j hj h1 h2=>?_,fun j hj hk=>?_,fun j hj hk=>?_,fun j hj=>?_,fun j hj hk=>?_⟩
 ·obtain⟨q,_,_,h3⟩:=key j hj;exact h3 h1 h2
 ·obtain⟨q,h1,h2,_⟩:=key j hj
  rw[htx _ (List.getElem_mem hj),h2]
  rw[h2] at hk
  exact (Zi4 _ _).1 hk
 ·obtain⟨q,h1,h2,_⟩:=key j hj
  rw[hsz j hj,h2]
  rw[h2] at hk
  have:=Zhp (s.data.toList.drop (q+Zbd blank (s.data.toList.drop q))) (by rw[show (Zal _).1=K.txt from hk];decide) (by rw[show (Zal _).1=K.txt from hk];decide)
  have h2:=Zlv _ hk
  simp only[Zah,List.length_take];omega
 ·obtain⟨q,h1,h2,_⟩:=key j hj
  rw[hsz j hj,h2];have:=hle q;omega
 ·obtain⟨q,h1,h2,_⟩:=key j hj
  rw[htx _ (List.getElem_mem hj),h2]
  rw[h2] at hk
  exact Ztg _ _ hk
mutual
theorem Zk0 (fs:List (List UInt8×Nat))(sc:List (List UInt8)):∀(e:Ex) (c p:Nat),nmE fs sc e=some (c,p)→c=4∨c=6
 | .num _,c,p,h=>by rw[nmE] at h;cases h
 | .txt _,c,p,h=>by rw[nmE] at h;cases h
 | .var n a,c,p,h=>by
  rw[nmE] at h
  split at h
  ·cases h
  ·cases h;exact Or.inl rfl
 | .form w n a ks,c,p,h=>by
  have hce:∀{k:Nat},Zcb fs n a k=some (c,p)→c=4∨c=6:=by
   intro k hk
   unfold Zcb at hk
   split at hk
   ·cases hk;exact Or.inl rfl
   ·split at hk
    ·cases hk
    ·cases hk;exact Or.inr rfl
  rw[nmE] at h
  split at h
  ·rcases Zh3 h with g | g
   ·exact hce g
   ·exact Zgw fs sc ks c p g
  ·split at h
   ·cases ks with
    | nil=>rw[Zq9] at h;cases h
    | cons x r =>
     rw[Zq9] at h
     rcases Zh3 h with g | g
     ·exact Zk0 fs sc x c p g
     ·exact Zgw fs _ r c p g
   ·exact Zgw fs sc ks c p h
theorem Zgw (fs:List (List UInt8×Nat))(sc:List (List UInt8)):∀(es:List Ex) (c p:Nat),Zfu fs sc es=some (c,p)→c=4∨c=6
 | [],c,p,h=>by rw[Zfu] at h;cases h
 | e::es,c,p,h=>by
  rw[Zfu] at h
  rcases Zh3 h with g | g
  ·exact Zk0 fs sc e c p g
  ·exact Zgw fs sc es c p g
end
theorem Z1p (fs:List (List UInt8×Nat))(fn:Fn)(c p:Nat)(h:Zj1 fs fn=some (c,p)):Zrz c=c:=by
 unfold Zj1 at h
 split at h
 ·cases h;rfl
 ·split at h
  ·cases h;rfl
  ·rcases Zk0 _ _ _ _ _ h with rfl | rfl<;>rfl
theorem Zh1 {α:Type}{r ts:List α}(t:α)(h:r <:+ ts):r <:+ t::ts:=h.trans (List.suffix_cons t ts)
theorem r_pF_sz {L:Nat→Int→List Tok→Res (List Ex)}(hL:∀d m ts es r,L d m ts=.ok es r→Zes es+2*r.length+2≤2*ts.length∧r <:+ ts){d:Nat}{ts:List Tok}{e:Ex}{r:List Tok}(h:pF L d ts=.ok e r):szE e+1+2*r.length≤2*ts.length∧r <:+ ts:=by
 cases ts with
 | nil=>cases h
 | cons t ts =>
  simp only[pF] at h
  split at h
  ·cases h
  ·rename_i n _
   cases g:L d n ts with
   | err c a=>rw[g] at h;cases h
   | ok ks r' =>
    rw[g] at h
    cases h
    obtain⟨h1,h2⟩:=hL _ _ _ _ _ g
    refine⟨?_,Zh1 t h2⟩
    simp[szE];omega
  ·rename_i n _
   cases ts with
   | nil=>cases h
   | cons u us =>
    simp only at h
    split at h
    ·cases g:L d n us with
     | err c a=>rw[g] at h;cases h
     | ok ks r' =>
      rw[g] at h
      cases h
      obtain⟨h1,h2⟩:=hL _ _ _ _ _ g
      refine⟨?_,Zh1 t (Zh1 u h2)⟩
      simp[szE];omega
    ·cases h
theorem r_pE_sz {L:Nat→Int→List Tok→Res (List Ex)}(hL:∀d m ts es r,L d m ts=.ok es r→Zes es+2*r.length+2≤2*ts.length∧r <:+ ts){d:Nat}{ts:List Tok}{e:Ex}{r:List Tok}(h:pE L d ts=.ok e r):szE e+1+2*r.length≤2*ts.length∧r <:+ ts:=by
 cases ts with
 | nil=>cases h
 | cons t ts =>
  simp only[pE] at h
  split at h
  ·cases h;exact⟨by simp[szE];omega,List.suffix_cons _ _⟩
  ·cases h;exact⟨by simp[szE];omega,List.suffix_cons _ _⟩
  ·split at h
   ·cases h
   ·cases h;exact⟨by simp[szE];omega,List.suffix_cons _ _⟩
  ·split at h
   ·cases h
   ·obtain⟨h1,h2⟩:=r_pF_sz hL h
    refine⟨?_,Zh1 t h2⟩
    simp;omega
  ·cases h
theorem Zu8:∀(f d:Nat) (m:Int) (ts:List Tok) (es:List Ex) (r:List Tok),pL f d m ts=.ok es r→Zes es+2*r.length+2≤2*ts.length∧r <:+ ts
 | 0,_,_,_,_,_,h=>by cases h
 | f+1,_,_,[],_,_,h=>by cases h
 | f+1,d,m,t::ts,es,r,h=>by
  simp only[pL] at h
  split at h
  ·split at h
   ·cases h;exact⟨by simp[Zes];omega,List.suffix_cons _ _⟩
   ·cases h
  ·cases g:pE (pL f) d (t::ts) with
   | err c a=>rw[g] at h;cases h
   | ok e r' =>
    rw[g] at h
    obtain⟨h1,h2⟩:=r_pE_sz (fun d m ts es r=>Zu8 f d m ts es r) g
    cases g2:pL f d (if m<0 then m else m-1) r' with
    | err c a=>simp only[g2,Zgh] at h;cases h
    | ok es' r'' =>
     simp only[g2,Zgh] at h
     cases h
     obtain⟨h3,h4⟩:=Zu8 f _ _ _ _ _ g2
     refine⟨?_,h4.trans h2⟩
     simp only[Zes]
     omega
theorem Zwq:∀(ts:List Tok) (ns:List (List UInt8×Nat)) (r:List Tok),pP ts=.ok ns r→ns.length+r.length<ts.length
 | [],_,_,h=>by cases h
 | t::ts,ns,r,h=>by
  simp only[pP] at h
  split at h
  ·cases h;simp
  ·split at h
   ·cases g:pP ts with
    | err c a=>simp only[g,Zig] at h;cases h
    | ok ns' r' =>
     simp only[g,Zig] at h
     cases h
     have:=Zwq ts _ _ g
     simp;omega
   ·cases h
theorem Zyb {G:Nat}{ts:List Tok}{fn:Fn}{r:List Tok}(h:Zfd G ts=.ok fn r):szE fn.body≤2*ts.length∧fn.params.length≤ts.length:=by
 match ts,h with
 | t::u::n::o::ts,h =>
  simp only[Zfd] at h
  split at h
  ·cases h
  split at h
  ·cases h
  split at h
  ·cases h
  split at h
  ·cases h
  cases e:pP ts with
  | err c a=>rw[e] at h;cases h
  | ok ns r1 =>
   rw[e] at h
   simp only[Zdy] at h
   have h1:=Zwq _ _ _ e
   cases e2:pL G 1 1 r1 with
   | err c a=>rw[e2] at h;cases h
   | ok es r2 =>
    rw[e2] at h
    have h2:=(Zu8 _ _ _ _ _ _ e2).1
    cases es with
    | nil=>cases h
    | cons b l =>
     cases h
     rw[Zes] at h2
     simp
     omega
 | [t,u,n],h =>
  simp only[Zfd] at h
  split at h
  ·cases h
  split at h<;>cases h
 | [t,u],h =>
  simp only[Zfd] at h
  split at h<;>cases h
 | [t],h=>cases h
 | [],h=>cases h
def Zq2 (pre:List Fn):Res (List Fn)→Res (List Fn)
 | .ok fs r=>.ok (pre++fs) r
 | .err c a=>.err c a
theorem Zx6 (pre:List Fn)(fn:Fn)(r:Res (List Fn)):Zq2 pre (Zk8 fn r)=Zq2 (pre++[fn]) r:=by cases r<;>simp[Zq2,Zk8]
theorem Z0u (r:Res (List Fn)):Zq2 [] r=r:=by cases r<;>simp[Zq2]
def e23 (c:Nat):Prop:=c=0∨c=2∨c=3
theorem pF_err {L:Nat→Int→List Tok→Res (List Ex)}(hL:∀d m ts c a,L d m ts=.err c a→e23 c){d:Nat}{ts:List Tok}{c a:Nat}(h:pF L d ts=.err c a):e23 c:=by
 cases ts with
 | nil=>cases h;exact Or.inl rfl
 | cons t ts =>
  simp only[pF] at h
  split at h
  ·cases h;exact Or.inr (Or.inl rfl)
  ·rename_i n _
   cases g:L d n ts with
   | err c' a'=>rw[g] at h;cases h;exact hL _ _ _ _ _ g
   | ok ks r'=>rw[g] at h;cases h
  ·rename_i n _
   cases ts with
   | nil=>cases h;exact Or.inl rfl
   | cons u us =>
    simp only at h
    split at h
    ·cases g:L d n us with
     | err c' a'=>rw[g] at h;cases h;exact hL _ _ _ _ _ g
     | ok ks r'=>rw[g] at h;cases h
    ·cases h;exact Or.inr (Or.inl rfl)
theorem pE_err {L:Nat→Int→List Tok→Res (List Ex)}(hL:∀d m ts c a,L d m ts=.err c a→e23 c){d:Nat}{ts:List Tok}{c a:Nat}(h:pE L d ts=.err c a):e23 c:=by
 cases ts with
 | nil=>cases h;exact Or.inl rfl
 | cons t ts =>
  simp only[pE] at h
  split at h
  ·cases h
  ·cases h
  ·split at h
   ·cases h;exact Or.inr (Or.inl rfl)
   ·cases h
  ·split at h
   ·cases h;exact Or.inr (Or.inr rfl)
   ·exact pF_err hL h
  ·cases h;exact Or.inr (Or.inl rfl)
theorem Z05:∀(f d:Nat) (m:Int) (ts:List Tok) (c a:Nat),pL f d m ts=.err c a→e23 c
 | 0,_,_,_,_,_,h=>by cases h;exact Or.inl rfl
 | f+1,_,_,[],_,_,h=>by cases h;exact Or.inl rfl
 | f+1,d,m,t::ts,c,a,h=>by
  simp only[pL] at h
  split at h
  ·split at h
   ·cases h
   ·cases h;exact Or.inr (Or.inl rfl)
  ·cases g:pE (pL f) d (t::ts) with
   | err c' a'=>rw[g] at h;cases h;exact pE_err (fun d m ts c a=>Z05 f d m ts c a) g
   | ok e r' =>
    rw[g] at h
    cases g2:pL f d (if m<0 then m else m-1) r' with
    | err c' a'=>simp only[g2,Zgh] at h;cases h;exact Z05 f _ _ _ _ _ g2
    | ok es' r''=>simp only[g2,Zgh] at h;cases h
theorem pP_err:∀(ts:List Tok) (c a:Nat),pP ts=.err c a→e23 c
 | [],_,_,h=>by cases h;exact Or.inl rfl
 | t::ts,c,a,h=>by
  simp only[pP] at h
  split at h
  ·cases h
  ·split at h
   ·cases g:pP ts with
    | err c' a'=>simp only[g,Zig] at h;cases h;exact pP_err ts _ _ g
    | ok ns' r'=>simp only[g,Zig] at h;cases h
   ·cases h;exact Or.inr (Or.inl rfl)
theorem pFun_err {G:Nat}{ts:List Tok}{c a:Nat}(h:Zfd G ts=.err c a):e23 c:=by
 match ts,h with
 | t::u::n::o::ts,h =>
  simp only[Zfd] at h
  split at h
  ·cases h;exact Or.inr (Or.inl rfl)
  split at h
  ·cases h;exact Or.inr (Or.inl rfl)
  split at h
  ·cases h;exact Or.inr (Or.inl rfl)
  split at h
  ·cases h;exact Or.inr (Or.inl rfl)
  cases e:pP ts with
  | err c' a'=>rw[e] at h;cases h;exact pP_err _ _ _ e
  | ok ns r1 =>
   rw[e] at h
   simp only[Zdy] at h
   cases e2:pL G 1 1 r1 with
   | err c' a'=>rw[e2] at h;cases h;exact Z05 _ _ _ _ _ _ e2
   | ok es r2 =>
    rw[e2] at h
    cases es with
    | nil=>cases h;exact Or.inl rfl
    | cons b l=>cases h
 | [t,u,n],h =>
  simp only[Zfd] at h
  split at h
  ·cases h;exact Or.inr (Or.inl rfl)
  split at h<;>(cases h;exact Or.inr (Or.inl rfl))
 | [t,u],h =>
  simp only[Zfd] at h
  split at h<;>(cases h;exact Or.inr (Or.inl rfl))
 | [t],h=>cases h;exact Or.inr (Or.inl rfl)
 | [],h=>cases h;exact Or.inl rfl
theorem Zs7:∀(f:Nat) (ts:List Tok) (c a:Nat),Zb7 f ts=.err c a→e23 c
 | 0,_,_,_,h=>by cases h;exact Or.inl rfl
 | f+1,[],_,_,h=>by cases h;exact Or.inl rfl
 | f+1,t::ts,c,a,h=>by
  simp only[Zb7] at h
  split at h
  ·cases h
  ·cases g:Zfd (f+1) (t::ts) with
   | err c' a'=>rw[g] at h;cases h;exact pFun_err g
   | ok fn r =>
    rw[g] at h
    cases g2:Zb7 f r with
    | err c' a'=>simp only[g2,Zk8] at h;cases h;exact Zs7 f r _ _ g2
    | ok fs r'=>simp only[g2,Zk8] at h;cases h
theorem codeT_of {c:Nat}(h:e23 c)(h0:c≠0):Z26 c=c:=by
 rcases h with h | h | h
 ·exact absurd h h0
 ·subst h;rfl
 ·subst h;rfl
def Small (fn:Fn):Prop:=WfE fn.body∧szE fn.body≤20000∧fn.params.length≤3000
def Zzp (base rb tb cap:Nat)(l:List (Tok×ByteArray))(w:World)(RES:Res (List Fn))(gh:Nat)(wr:World):Prop :=
 ∃(k d e a:Nat) (fad:Option Addr) (fcp:Nat) (vad:Option Addr) (vcp:Nat) (fs:List Ze8) (ps:List Zaw),
  Rp wr base rb tb cap l (.slice fad fs.length fcp) (.slice vad ps.length vcp) k d e a ps∧wr.ownsRow base 208 5 (.slice fad fs.length fcp) fs.length (Zbt fs)∧(∀g,some g=(Value.slice fad fs.length fcp).ownBlock→some g≠(Value.slice vad ps.length vcp).ownBlock∧g≠rb∧g≠tb)∧Below w.heap.size w wr ∧
  Aside ((e≠0∧gh=0∧RES=.err e a)∨(e=0∧d=0∧a=0∧gh=l.length-k+1∧ps.length+(l.length-k)≤3000∧fs.length+(l.length-k)≤3000∧∃fns f,Zb4 wr (fun g=>base≤g∧some g≠(Value.slice vad ps.length vcp).ownBlock∧some g≠(Value.slice fad fs.length fcp).ownBlock∧g≠rb∧g≠tb) ps fs fns∧(Zan l k).length≤f∧RES=Zq2 fns (Zb7 f (Zan l k))∧∀fn∈fns,Small fn))
theorem Zb4.map {w w':World}{D D':Nat→Prop}{ps ps':List Zaw}(hp:∀(i:Nat) (p:Zaw),ps[i]?=some p→ps'[i]?=some p)(hR:∀t sl n vs,Zao w D t 1 sl n vs→Zao w' D' t 1 sl n vs):∀{fs:List Ze8} {fns:List Fn},Zb4 w D ps fs fns→Zb4 w' D' ps' fs fns
 | [],fns,h=>h
 | f::r,fns,h=>by
  obtain⟨fn,q,h1,⟨q1,q2,⟨qs,ls,q3,q4,q5,q6⟩,q7⟩,h3⟩:=h
  exact⟨fn,q,h1,⟨q1,q2,⟨qs,ls,q3,q4,hR _ _ _ _ q5,hR _ _ _ _ q6⟩,q7.map (fun i p _ hq=>hp i p hq) (Nat.le_refl _) (fun sl n vs hr=>hR _ _ _ _ hr)⟩,Zb4.map hp hR h3⟩
theorem Zb4.snoc {w:World}{D:Nat→Prop}{ps:List Zaw}{fn:Fn}{f:Ze8}(hf:Zxc w D ps fn f):∀{fs:List Ze8} {fns:List Fn},Zb4 w D ps fs fns→Zb4 w D ps (fs++[f]) (fns++[fn])
 | [],fns,h=>by
  rw[show fns=[] from h]
  exact⟨fn,[],rfl,hf,rfl⟩
 | x::r,fns,h=>by
  obtain⟨g,q,rfl,h2,h3⟩:=h
  exact⟨g,q++[fn],rfl,h2,Zb4.snoc hf h3⟩
theorem Zzp.next {base rb tb cap:Nat}{l:List (Tok×ByteArray)}{w wr w2:World}{RES:Res (List Fn)}{k:Nat}{fad:Option Addr}{fcp:Nat}{vad:Option Addr}{vcp:Nat}{fs:List Ze8}{ps:List Zaw}{fns:List Fn}{f:Nat}{r:Ending}(hbase:base=w.heap.size)(hrb:base≤rb)(_htb:base≤tb)(hwf:Zfr l)
  (rp:Rp wr base rb tb cap l (.slice fad fs.length fcp) (.slice vad ps.length vcp) k 0 0 0 ps) (own:wr.ownsRow base 208 5 (.slice fad fs.length fcp) fs.length (Zbt fs)) (bw:Below w.heap.size w wr)
  (hps:ps.length+(l.length-k)≤3000) (hfs:fs.length+(l.length-k)≤3000) (hrep:Zb4 wr (fun g=>base≤g∧some g≠(Value.slice vad ps.length vcp).ownBlock∧some g≠(Value.slice fad fs.length fcp).ownBlock∧g≠rb∧g≠tb) ps fs fns) (hf:(Zan l k).length≤f+1) (hR:RES=Zq2 fns (Zb7 (f+1) (Zan l k))) (hsm:∀fn∈fns,Small fn) (hne:(l[k]'rp.z.hk).1.k≠.eof)
  (hg:Zrp (f0 (f+1) (Zan l k)) base rb tb cap l (.slice fad fs.length fcp) (.slice vad ps.length vcp) 0 k ps fs wr r w2) :
  r=.returned (.tuple #[])∧∃gh2,gh2<l.length-k+1∧Zzp base rb tb cap l w RES gh2 w2:=by
 obtain⟨h1,hT,fv',pv',ps',fu,k',d',e',a',rp2,own2,mvp,mvf,hfd2,H⟩:=hg
 refine⟨h1,?_⟩
 obtain⟨fad2,fcp2,rfl⟩:=Zaf own2
 obtain⟨vad2,vcp2,rfl⟩:=Zaf rp2.own
 have hk:=rp.z.hk
 have hlt:=rp.lt
 have hfl:=own.lt
 have hB:Below w.heap.size w w2:=hT.fresh bw fun g hg hS=>by
  rcases hS with e | e | e
  ·omega
  ·have:=(hlt.2.2 g e.symm).1;omega
  ·have:=(hfl g e.symm).1;omega
 have hstep:RES=Zq2 fns (match f0 (f+1) (Zan l k) with | .err c a=>.err c a | .ok fn r=>Zk8 fn (Zb7 f r)):=by
  rw[hR,←Z07 (f+1) hwf hk,Zbk hk,Zb7,if_neg hne]
  cases Zfd (f+1) ((l[k]'hk).1::Zan l (k+1))<;>rfl
 have e2:(fs++[fu]).length=fs.length+1:=by simp
 rcases H.out with ⟨he,hr⟩ | ⟨he,hd,ha,hkk,hpre,hsz,fn,hr,hrf⟩
 ·refine⟨0,by omega,k',d',e',a',fad2,fcp2,vad2,vcp2,fs++[fu],ps',rp2,own2,hfd2,hB,Or.inl ⟨he,rfl,?_⟩⟩
  rw[hstep,hr];rfl
 ·have hk2:=rp2.z.hk
  refine⟨l.length-k'+1,by omega,k',d',e',a',fad2,fcp2,vad2,vcp2,fs++[fu],ps',rp2,own2,hfd2,hB,Or.inr ⟨he,hd,ha,rfl,by omega,by simp;omega,fns++[fn],f,?_,?_,?_,?_⟩⟩
  ·refine Zb4.snoc ?_ ?_
   ·obtain⟨q1,q2,⟨qs,ls,q3,q4,q5,q6⟩,q7⟩:=hrf
    have wk:∀t sl n vs,Zao w2 (fun g=>wr.heap.size≤g∧some g≠(Value.slice vad2 ps'.length vcp2).ownBlock∧some g≠(Value.slice fad2 (fs++[fu]).length fcp2).ownBlock) t 1 sl n vs→Zao w2 (fun g=>base≤g∧some g≠(Value.slice vad2 ps'.length vcp2).ownBlock∧some g≠(Value.slice fad2 (fs++[fu]).length fcp2).ownBlock∧g≠rb∧g≠tb) t 1 sl n vs:=fun t sl n vs hh=>hh.weaken fun g hg=>⟨by have:=bw.size;omega,hg.2.1,hg.2.2,by omega,by omega⟩
    exact⟨q1,q2,⟨qs,ls,q3,q4,wk _ _ _ _ q5,wk _ _ _ _ q6⟩,q7.map (fun i p _ hq=>hq) (Nat.le_refl _) (fun sl n vs hh=>wk _ _ _ _ hh)⟩
   ·refine hrep.map (fun i p hq=>?_) (fun t sl n vs hh=>?_)
    ·obtain⟨r3,hr3⟩:=hpre
     rw[←hr3,List.getElem?_append_left (List.getElem?_eq_some_iff.1 hq).1]
     exact hq
    ·refine (hh.keep (w':=w2) fun g hg hl=>hT.block g hl ?_).weaken fun g hg=>⟨hg.1.1,fun e=>?_,fun e=>?_,hg.1.2.2.2⟩
     ·rintro (e | e | e)
      ·exact hg.2.2.2.1 e
      ·exact hg.2.1 e
      ·exact hg.2.2.1 e
     ·rcases mvp.own g e with e2 | e2
      ·exact hg.1.2.1 e2
      ·have:=hg.2;omega
     ·rcases mvf.own g e with e2 | e2
      ·exact hg.1.2.2.1 e2
      ·have:=hg.2;omega
  ·rw[Zbv] at hf ⊢;omega
  ·rw[hstep,hr]
   exact Zx6 fns fn _
  ·intro x hx
   rcases List.mem_append.1 hx with g | g
   ·exact hsm x g
   ·simp at g
    subst g
    rw[←Z07 (f+1) hwf hk] at hr
    have:=Zyb hr
    rw[Zbv] at this
    exact⟨Z06 hr,by omega,by omega⟩
end Go.Proofs.YtliapghpeoaonaaGreatDoor
namespace Go.Proofs.YtliapghpeoaonaaGreatDoor
open Go.Proofs.Tryz
open Go.RowKit
attribute [local go_sem ↓] Go.wp_at_zero Go.wp_at_succ
attribute [local go_sem] Z2m
def ansP (o:Option (Nat×Nat)):Nat×Nat:=match o with | none=>(0,0) | some x=>x
def Zwm (o:Option (Nat×Nat))(w:World)(e:Ending)(w':World):Prop :=
 (∃v:Option Addr,e=.returned (.tuple #[.pointer v,.int .i64 (((ansP o).1:Nat):Int),.int .i64 (((ansP o).2:Nat):Int)]))∧Below w.heap.size w w'
def Zu7 (n:Nat)(RES:Res (List Fn))(w:World)(e:Ending)(w':World):Prop :=
 Below w.heap.size w w'∧∃v:Option Addr,e=.returned (.tuple #[.pointer v,.int .i64 (((ansP (chk n RES)).1:Nat):Int),.int .i64 (((ansP (chk n RES)).2:Nat):Int)])∧(chk n RES=none→∃prb fv pv fs ps fns rest,RES=.ok fns rest∧v=some ⟨prb,5,none⟩∧PM w' prb fv pv fs ps fns)
theorem Z0s {n:Nat}{RES:Res (List Fn)}{w w':World}{c a:Nat}(h:chk n RES=some (c,a))(hb:Below w.heap.size w w'):Zu7 n RES w (.returned (.tuple #[.pointer none,.int .i64 ((c:Nat):Int),.int .i64 ((a:Nat):Int)])) w':=by
 refine⟨hb,none,by rw[h];rfl,fun h2=>?_⟩
 rw[h] at h2
 cases h2
theorem rd_good {n:Nat}{RES:Res (List Fn)}{w w':World}{prb:Nat}{fv pv:Value}{fs:List Ze8}{ps:List Zaw}{fns:List Fn}(h:chk n RES=none)(hb:Below w.heap.size w w')(hok:∃rest,RES=.ok fns rest)(pm:PM w' prb fv pv fs ps fns):Zu7 n RES w (.returned (.tuple #[.pointer (some ⟨prb,5,none⟩),.int .i64 0,.int .i64 0])) w':=by
 obtain⟨rest,hok⟩:=hok
 exact⟨hb,_,by rw[h];rfl,fun _=>⟨prb,fv,pv,fs,ps,fns,rest,hok,rfl,pm⟩⟩
theorem Rp.fresh {w w1:World}{l:List (Tok×ByteArray)}{v:Value}(hb1:Below w.heap.size w w1)(hrow:Zao w1 (w.heap.size≤·) 133 3 v l.length (Zck l))(hne:0<l.length)(hl:l.length≤3000):
  ∃tb cap,v=.slice (some ⟨tb,0,none⟩) l.length cap∧w.heap.size≤tb∧Rp (w1.alloc (.cells #[v,.int .i64 0,.int .i64 0,.int .i64 0,.int .i64 0,.slice none 0 0,.slice none 0 0] 131)) w.heap.size w1.heap.size tb cap l (.slice none 0 0) (.slice none 0 0) 0 0 0 0 []:=by
 rcases hrow.2 with ⟨_,h0⟩ | ⟨g,cp,cur,rfl,hg,hh,hc,hm,hz,ht⟩
 ·omega
 ·have hlt:=Zag hh
  refine⟨g,cp,rfl,hg,⟨heap_alloc_new _ _,⟨cur,?_,ht⟩,hne,hc,hm,hl,by decide,by omega⟩,World.ownsRow_nil _ _ _ _,(fun e=>by cases e),(fun e=>by cases e),?_⟩
  ·rw[(Zab w1 _).block g hlt];exact hh
  ·have:=hb1.size;simp;omega
theorem PM.of {wr:World}{base rb tb cap:Nat}{l:List (Tok×ByteArray)}{fv pv:Value}{k d e a:Nat}{fs:List Ze8}{ps:List Zaw}{fns:List Fn}{D:Nat→Prop}(rp:Rp wr base rb tb cap l fv pv k d e a ps)(own:wr.ownsRow base 208 5 fv fs.length (Zbt fs))(hrep:Zb4 wr D ps fs fns)(h1:fs.length≤3000)(h2:ps.length≤3000):PM wr rb fv pv fs ps fns :=
 ⟨rp.z.cells.2.2.2.2.2.1,rp.z.cells.2.2.2.2.2.2,(Zao.of_owns own).weaken fun _ _=>trivial,(Zao.of_owns rp.own).weaken fun _ _=>trivial,hrep.map (fun _ _ h=>h) (fun _ _ _ _ h=>h.weaken fun _ _=>trivial),h1,h2⟩
theorem Zpp (s:ByteArray)(w:World)(ts:List Tok)(hs:s.size≤maxLen)(hl:2000<s.size):Calls prog 25 #[.string s] w (Zwm (Zbx s.size ts) w):=by
 unfold maxLen at hs
 have e:Zbx s.size ts=some (1,0):=by simp[Zbx,hl]
 rw[e]
 go_enter func25,ntmps25
 go_wp2
 go_ret3
 exact⟨⟨none,rfl⟩,Below.refl _ _⟩
theorem Zln (s:ByteArray)(w:World){ts:List Tok}(hs:s.size≤2000)(hts:Za4 s.data.toList 0 ts):Calls prog 25 #[.string s] w (Zu7 s.size (Zb7 (ts.length+1) ts) w):=by
 have ct:=Zxq s w hs hts
 have hlen:=hts.len (Nat.zero_le _)
 rw[Zj4] at hlen
 obtain⟨t0,tr,hts0⟩:=hts.ne
 have HTS:Aside (Za4 s.data.toList 0 ts):=hts
 have HNE:Aside (0<ts.length):=by show 0<_;rw[hts0];simp
 clear hts hts0
 generalize hRES:Zb7 (ts.length+1) ts=RES at *
 have HRES:Aside (Zb7 (ts.length+1) ts=RES):=hRES
 clear hRES
 go_enter func25,ntmps25
 go_wp2_with (go_at_call 55;go_loud (refine ct.mono ?_;rintro r w1 ⟨⟨v,l,rfl,hl1,htx,hrow⟩,hb1⟩;have hll:Aside (l.length=ts.length):=(by show _=_;rw[←hl1];simp);obtain⟨tb,cap,rfl,htb,rp0⟩:=Rp.fresh hb1 hrow (by have:=HNE.out;have:=hll.out;omega) (by have:=hll.out;omega)))
 have hwf:Zfr l:=tokWF_of hs (by rw[hl1];exact HTS.out) htx
 have hta:Zan l 0=ts:=by simp[Zan,hl1]
 have sz1:=hb1.size
 have hB2:Below w.heap.size w (w1.alloc (.cells #[.slice (some ⟨tb,0,none⟩) l.length cap,.int .i64 0,.int .i64 0,.int .i64 0,.int .i64 0,.slice none 0 0,.slice none 0 0] 131)):=hb1.alloc sz1 _
 have R0:Aside (Zzp w.heap.size w1.heap.size tb cap l w RES (l.length+1) (w1.alloc (.cells #[.slice (some ⟨tb,0,none⟩) l.length cap,.int .i64 0,.int .i64 0,.int .i64 0,.int .i64 0,.slice none 0 0,.slice none 0 0] 131))) :=
  ⟨0,0,0,0,none,0,none,0,[],[],rp0,World.ownsRow_nil _ _ _ _,(fun g hg=>by cases hg),hB2,Or.inr ⟨rfl,rfl,rfl,rfl,by have:=hll.out;simp;omega,by have:=hll.out;simp;omega,[],ts.length+1,rfl,by have:=hll.out;rw[Zbv];omega,by rw[hta,HRES.out,Z0u],fun fn hfn=>by cases hfn⟩⟩
 generalize hrbe:w1.heap.size=rb at *
 generalize (w1.alloc (.cells #[.slice (some ⟨tb,0,none⟩) l.length cap,.int .i64 0,.int .i64 0,.int .i64 0,.int .i64 0,.slice none 0 0,.slice none 0 0] 131))=W at *
 clear rp0 hB2 hta hrow hl1 ct
 go_loopg [] (l.length+1) (fun gh wr=>Zzp w.heap.size rb tb cap l w RES gh wr)
 case atStart=>exact R0.out
 case round =>
  obtain⟨k,d,e,a,fad,fcp,vad,vcp,fs,ps,rp,own,hfd,bw,hst⟩:=hrel
  have hk:=rp.z.hk
  obtain⟨c0,c1,c2,c3,c4,c5,c6⟩:=rp.z.cells
  rcases hst.out with ⟨he,hgh,hR⟩ | ⟨he,hd,ha,hgh,hps,hfs,fns,f,hrep,hf,hR,hsm⟩
  ·have HA:Aside (chk s.size RES=some (e,a)):=by
    show _=_
    have hR2:=HRES.out.trans hR
    rw[hR,chk,codeT_of (Zs7 _ _ _ _ hR2) he]
   clear hR hst
   go_wp2
   go_quiet (fail)
   go_wp2
   go_ret3
   exact Z0s HA.out (Zeh bw)
  ·subst he hd ha
   have hl3:=rp.z.hl
   by_cases heof:(l[k]'hk).1.k=.eof
   ·have hkc:Zba (l[k]'hk).1.k=0:=by rw[heof];rfl
    have hcv:Zaq (l[k]'hk)=.agg #[.int .u8 0,.string (l[k]'hk).2,.int .i64 (((l[k]'hk).1.at_:Nat):Int)]:=by rw[←hkc]
    have cn:=Zbf rp.z
    rw[hcv] at cn
    have HOK:Aside (∃rest,RES=.ok fns rest):=by
     obtain⟨f,rfl⟩:∃f',f=f'+1:=⟨f-1,by rw[Zbv] at hf;omega⟩
     rw[Zbk hk,Zb7,if_pos heof,Zq2,List.append_nil] at hR
     exact⟨_,hR⟩
    have pm:=PM.of rp own hrep (by omega) (by omega)
    have hfl:fs.length=fns.length:=pm.rep.length
    have HFL:Aside (fs.length=fns.length):=hfl
    have HSM:Aside (∀fn∈fns,Small fn):=hsm
    have hfs3:fs.length≤3000:=by omega
    clear hfl hR hst hrep own hcv hsm
    go_wp2_with (go_at_call 56;go_loud (refine cn.mono ?_;rintro r w8 ⟨rfl,hb8⟩;have pm8:=pm.below hb8;have z8:=rp.z.below hb8;obtain⟨x0,x1,x2,x3,x4,x5,x6⟩:=z8.cells;have bw8:=bw.trans (hb8.mono bw.size)))
    go_loopg [7] fs.length (fun gh iv wr2=>∃q:Nat,gh=fs.length-q∧iv=.int .i64 ((q:Nat):Int)∧q≤fs.length∧Below w8.heap.size w8 wr2∧Aside (Zdr [] fns=Zdr ((fns.take q).map Za5) (fns.drop q)))
    case atStart=>exact⟨0,by omega,rfl,by omega,Below.refl _ _,rfl⟩
    case round =>
     obtain⟨q,rfl,rfl,hq,hb2,hNM⟩:=hrel
     have pm2:=pm8.below hb2
     have y5:=pm2.c5
     have bw2:=bw8.trans (hb2.mono bw8.size)
     by_cases hlt:q<fs.length
     ·have hq2:q<fns.length:=by have:=HFL.out;omega
      have hsq:=HSM.out _ (List.getElem_mem hq2)
      have cl:=Z14 pm2 q hq2 hsq.1 hsq.2.1 hsq.2.2
      have HNM:Zdr [] fns=(match Zj1 ((fns.take q).map Za5) (fns[q]'hq2) with | some e=>some e | none=>Zdr ((fns.take (q+1)).map Za5) (fns.drop (q+1))):=by
       rw[hNM.out,List.drop_eq_getElem_cons hq2,Zdr,List.take_succ_eq_append_getElem hq2,List.map_append]
       cases Zj1 ((fns.take q).map Za5) (fns[q]'hq2)<;>rfl
      cases hO:Zj1 ((fns.take q).map Za5) (fns[q]'hq2) with
      | none =>
       rw[hO] at cl HNM
       have HN2:Aside (Zdr [] fns=Zdr ((fns.take (q+1)).map Za5) (fns.drop (q+1))):=HNM
       clear HNM hNM hO
       go_wp2_with (go_at_call 58;go_loud (refine cl.mono ?_;rintro r w3 ⟨hb3,hr3⟩;obtain rfl:=Z1n hr3))
       go_roundg (fs.length-(q+1))
       case measure=>omega
       case rel=>exact⟨q+1,rfl,by go_num,by omega,hb2.trans (hb3.mono hb2.size),HN2.out⟩
      | some x =>
       obtain⟨c,p⟩:=x
       rw[hO] at cl HNM
       have HA:Aside (chk s.size RES=some (c,p)):=by
        obtain⟨rest,hok⟩:=HOK.out
        show _=_
        have hcn:=Z1p _ _ _ _ hO
        rw[hok,chk,HNM]
        simp only[hcn]
       clear HNM hNM hO
       go_wp2_with (go_at_call 58;go_loud (refine cl.mono ?_;rintro r w3 ⟨hb3,hr3⟩;obtain⟨hc0,rfl⟩:=Z1m hr3))
       go_ret3
       exact Z0s HA.out (bw2.trans (hb3.mono bw2.size))
     ·have HN:Zdr [] fns=none:=by
       rw[hNM.out,List.drop_of_length_le (by have:=HFL.out;omega),Zdr]
      have HC:chk s.size RES=if (Zp4 [105,110,105,116] 0 fns&&Zp4 [117,112,100,97,116,101] 2 fns&&Zp4 [118,105,101,119] 1 fns) then none else some (7,s.size):=by
       obtain⟨rest,hok⟩:=HOK.out
       rw[hok,chk,HN]
       simp only[Zyv,Ztu _ _ HN]
      have H1:Calls prog 59 #[.pointer (some ⟨rb,5,none⟩),.string ⟨#[105,110,105,116]⟩,.int .i64 0] wr fun e w'=>e=.returned (.bool (Zp4 [105,110,105,116] 0 fns))∧w'=wr:=Zmj pm2 ⟨#[105,110,105,116]⟩ 0
      have H2:Calls prog 59 #[.pointer (some ⟨rb,5,none⟩),.string ⟨#[117,112,100,97,116,101]⟩,.int .i64 2] wr fun e w'=>e=.returned (.bool (Zp4 [117,112,100,97,116,101] 2 fns))∧w'=wr:=Zmj pm2 ⟨#[117,112,100,97,116,101]⟩ 2
      have H3:Calls prog 59 #[.pointer (some ⟨rb,5,none⟩),.string ⟨#[118,105,101,119]⟩,.int .i64 1] wr fun e w'=>e=.returned (.bool (Zp4 [118,105,101,119] 1 fns))∧w'=wr:=Zmj pm2 ⟨#[118,105,101,119]⟩ 1
      have PMA:Aside (PM wr rb (.slice fad fs.length fcp) (.slice vad ps.length vcp) fs ps fns):=pm2
      clear hNM HN
      generalize Zp4 [105,110,105,116] 0 fns=b1 at *
      generalize Zp4 [117,112,100,97,116,101] 2 fns=b2 at *
      generalize Zp4 [118,105,101,119] 1 fns=b3 at *
      have HCA:Aside (chk s.size RES=if (b1&&b2&&b3) then none else some (7,s.size)):=HC
      clear HC
      cases b1<;>cases b2<;>cases b3
      all_goals go_wp2_with (first
       |(go_at_call 59;have m3:=m2;refine H3.mono ?_;rintro r w3 ⟨rfl,rfl⟩;clear m2)
       |(go_at_call 59;have m2:=m1;refine H2.mono ?_;rintro r w3 ⟨rfl,rfl⟩;clear m1)
       |(go_at_call 59;have m1:=True.intro;refine H1.mono ?_;rintro r w3 ⟨rfl,rfl⟩))
      all_goals go_ret3
      all_goals first
       | exact Z0s (by rw[HCA.out];rfl) bw2
       | exact rd_good (by rw[HCA.out];rfl) bw2 HOK.out PMA.out
   ·have hkc:((Zba (l[k]'hk).1.k) != 0)=true:=Zlb fun e=>heof ((Z0a _).1 e)
    have cn:=Zbf rp.z
    have hcv:Zaq (l[k]'hk)=.agg #[.int .u8 (Zba (l[k]'hk).1.k),.string (l[k]'hk).2,.int .i64 (((l[k]'hk).1.at_:Nat):Int)]:=rfl
    rw[hcv] at cn
    obtain⟨f,rfl⟩:∃f',f=f'+1:=⟨f-1,by rw[Zbv] at hf;omega⟩
    have NXT:Aside (∀(w8 w2:World) (r:Ending),Below wr.heap.size wr w8→Zrp (f0 (f+1) (Zan l k)) w.heap.size rb tb cap l (.slice fad fs.length fcp) (.slice vad ps.length vcp) 0 k ps fs w8 r w2→r=.returned (.tuple #[])∧∃gh2,gh2<l.length-k+1∧Zzp w.heap.size rb tb cap l w RES gh2 w2):=fun w8 w2 r hb8 hg =>
     Zzp.next rfl (by omega) htb hwf (rp.below hb8) (Zay own fun g hg=>hb8.block g (own.lt g hg).2) (bw.trans (hb8.mono bw.size)) hps hfs (hrep.below hb8) hf hR hsm heof hg
    have FA:∀w8,Below wr.heap.size wr w8→Calls prog 57 #[.pointer (some ⟨rb,0,none⟩)] w8 (Zrp (f0 (f+1) (Zan l k)) w.heap.size rb tb cap l (.slice fad fs.length fcp) (.slice vad ps.length vcp) 0 k ps fs w8):=fun w8 hb8 =>
     fun_any (rp.below hb8) hwf (Zay own fun g hg=>hb8.block g (own.lt g hg).2) hfd hps (by omega) (fun g=>expr_all hwf g) hf
    generalize Zba (l[k]'hk).1.k=tk at *
    generalize (l[k]'hk).2=tss at *
    generalize (l[k]'hk).1.at_=tat at *
    clear hst hR hrep hsm hf hcv
    go_wp2_with (first
     |(go_at_call 56;go_loud (refine cn.mono ?_;rintro r w8 ⟨rfl,hb8⟩))
     |(go_at_call 57;go_loud (refine (FA w8 hb8).mono ?_;intro r w2 hg2;obtain⟨rfl,NX⟩:=NXT.out w8 w2 r hb8 hg2;clear hg2)))
    obtain⟨gh2,hgl,hrl⟩:=NX
    go_roundg gh2
    case measure=>omega
    case rel=>exact hrl
theorem Zu1 (s:ByteArray)(w:World){ts:List Tok}(hs:s.size≤2000)(hts:Za4 s.data.toList 0 ts):Calls prog 25 #[.string s] w (Zwm (Zbx s.size ts) w) :=
 (Zln s w hs hts).mono fun e w' h=>by
  have ea:Zbx s.size ts=chk s.size (Zb7 (ts.length+1) ts):=by simp[Zbx];omega
  obtain⟨h1,v,h2,_⟩:=h
  exact⟨⟨v,by rw[h2,ea]⟩,h1⟩
theorem Z0m (s:ByteArray)(w:World){ts:List Tok}(hs:s.size≤maxLen)(hts:s.size≤2000→Za4 s.data.toList 0 ts):Calls prog 25 #[.string s] w (Zwm (Zbx s.size ts) w):=by
 by_cases h:2000<s.size
 ·exact Zpp s w ts hs h
 ·exact Zu1 s w (by omega) (hts (by omega))
end Go.Proofs.YtliapghpeoaonaaGreatDoor
