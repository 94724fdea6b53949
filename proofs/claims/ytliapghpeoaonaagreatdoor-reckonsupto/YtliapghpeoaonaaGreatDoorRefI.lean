/-
  The reference: form and expr, at all tokens.
-/
import Derived.Test.YtliapghpeoaonaaGreatDoorRefG0
import Derived.Test.YtliapghpeoaonaaGreatDoorRefH0
import Derived.Test.YtliapghpeoaonaaGreatDoorPure
import Derived.Deep.RegionLawGrows
import Derived.Maps.AppendAt
namespace Go.Proofs.YtliapghpeoaonaaGreatDoor
open Go.Proofs.Tryz
open Go.RowKit
section
variable {w:World} {base rb tb cap:Nat} {l:List (Tok×ByteArray)} {fv pv:Value} {k d e a:Nat} {ps:List Zaw}
theorem Z0o {G:Nat}(IH:∀g,g<G→ExDo base rb tb cap l fv a g)(hwf:Zfr l)(h:Rp w base rb tb cap l fv pv k d 0 a ps)(hsz:ps.length+(l.length-k)≤3001)(hct:(l[k]'h.z.hk).1.k=.opn)(hG:(Zan l k).length≤G+2):
  Calls prog 150 #[.pointer (some ⟨rb,0,none⟩)] w (Zmd (if d=16 then .err 3 (l[k]'h.z.hk).1.at_ else pF (pL G) (d+1) (Zan l (k+1))) base rb tb cap l fv pv k d a ps w):=by
 have hk:=h.z.hk
 have hk1:=hwf.more k hk (by rw[hct];decide) (by rw[hct];decide)
 rw[Zbv] at hG
 by_cases hd:d=16
 ·rw[if_pos hd]
  exact Z2f h hwf hsz hct hk1 hd
 ·rw[if_neg hd]
  have hd2:d<16:=by have:=h.z.hd;omega
  have hb1:=hwf.tx _ (List.getElem_mem hk1)
  rw[Zbk hk1]
  by_cases hw1:(l[k+1]'hk1).1.k=.word
  ·cases hs:Za3 (l[k+1]'hk1).1.body with
   | none =>
    have e:pF (pL G) (d+1) ((l[k+1]'hk1).1::Zan l (k+1+1))=.err 2 (l[k+1]'hk1).1.at_:=by simp[pF,Zee,hw1,hs]
    rw[e]
    exact Zoe h hwf hsz hct hk1 hd2 (by rw[hb1];exact hs)
   | some x =>
    obtain⟨b,n⟩:=x
    cases b with
    | false =>
     have e:pF (pL G) (d+1) ((l[k+1]'hk1).1::Zan l (k+1+1))=Zie (l[k+1]'hk1).1.body [] (l[k+1]'hk1).1.at_ (pL G (d+1) n (Zan l (k+2))):=by simp[pF,Zee,hw1,hs]
     rw[e]
     exact Zu2 h hwf hsz hct hk1 hd2 hw1 n (by rw[hb1];exact hs) G IH (by rw[Zbv];omega)
    | true =>
     have hk2:=hwf.more (k+1) hk1 (by rw[hw1];decide) (by rw[hw1];decide)
     rw[Zbk hk2]
     cases hnm:Zbg (l[k+1+1]'hk2).1 with
     | false =>
      have e:pF (pL G) (d+1) ((l[k+1]'hk1).1::(l[k+1+1]'hk2).1::Zan l (k+1+1+1))=.err 2 (l[k+1+1]'hk2).1.at_:=by simp[pF,Zee,hw1,hs,hnm]
      rw[e]
      exact Zvs h hwf hsz hct hk1 hd2 hw1 n (by rw[hb1];exact hs) hk2 hnm
     | true =>
      have hw2:(l[k+1+1]'hk2).1.k=.word:=by
       simp only[Zbg,Bool.and_eq_true,decide_eq_true_eq] at hnm
       exact hnm.1
      have hk3:=hwf.more (k+1+1) hk2 (by rw[hw2];decide) (by rw[hw2];decide)
      have e:pF (pL G) (d+1) ((l[k+1]'hk1).1::(l[k+1+1]'hk2).1::Zan l (k+1+1+1))=Zie (l[k+1]'hk1).1.body (l[k+1+1]'hk2).1.body (l[k+1+1]'hk2).1.at_ (pL G (d+1) n (Zan l (k+3))):=by simp[pF,Zee,hw1,hs,hnm]
      rw[e]
      exact Zu3 h hwf hsz hct hk1 hd2 hw1 n (by rw[hb1];exact hs) hk2 hnm hk3 G IH (by rw[Zbv];omega)
  ·have e:pF (pL G) (d+1) ((l[k+1]'hk1).1::Zan l (k+1+1))=.err 2 (l[k+1]'hk1).1.at_:=by simp[pF,Zee,hw1]
   rw[e]
   exact Zoe h hwf hsz hct hk1 hd2 (hwf.noshape (k+1) hk1 hw1)
theorem Z2p {G:Nat}(IH:∀g,g<G→ExDo base rb tb cap l fv a g)(hwf:Zfr l):ExDo base rb tb cap l fv a G:=by
 intro w pv ps k d h hsz hG
 have hk:=h.z.hk
 rw[Zbk hk]
 cases hct:(l[k]'hk).1.k with
 | num=>simp only[pE,hct];exact expr_num h hwf hsz hct
 | txt=>simp only[pE,hct];exact expr_txt h hwf hsz hct
 | word =>
  simp only[pE,hct]
  cases hr:Zci (l[k]'hk).1.body with
  | true =>
   simp only[if_true]
   exact Zg1 h hwf hsz 97 (by rw[hct];rfl) rfl rfl rfl (by simp[Zbg,hct,hr])
  | false =>
   simp only[Bool.false_eq_true,if_false]
   exact Z2q h hwf hsz hct (by simp[Zbg,hct,hr])
 | opn =>
  simp only[pE,hct]
  have cf:∀(X:World) (pv':Value) (qs:List Zaw),Rp X base rb tb cap l fv pv' k d 0 a qs→qs.length+(l.length-k)≤3001→Calls prog 150 #[.pointer (some ⟨rb,0,none⟩)] X (Zmd (if d=16 then .err 3 (l[k]'hk).1.at_ else pF (pL G) (d+1) (Zan l (k+1))) base rb tb cap l fv pv' k d a qs X) :=
   fun X pv' qs hX hq=>Z0o IH hwf hX hq hct hG
  generalize (if d=16 then Res.err 3 (l[k]'hk).1.at_ else pF (pL G) (d+1) (Zan l (k+1)))=R at *
  cases R with
  | err c q=>exact Zru h hwf hsz hct c q cf
  | ok ex rest=>exact Zt0 h hwf hsz hct ex rest cf
 | eof =>
  simp only[pE,hct]
  exact Zg1 h hwf hsz 0 (by rw[hct];rfl) rfl rfl rfl (by simp[Zbg,hct])
 | cls =>
  simp only[pE,hct]
  exact Zg1 h hwf hsz 41 (by rw[hct];rfl) rfl rfl rfl (by simp[Zbg,hct])
 | bad =>
  simp only[pE,hct]
  exact Zg1 h hwf hsz 120 (by rw[hct];rfl) rfl rfl rfl (by simp[Zbg,hct])
theorem expr_all (hwf:Zfr l):∀G,ExDo base rb tb cap l fv a G:=fun G=>by
 induction G using Nat.strongRecOn with
 | _ G ih=>exact Z2p (fun g hg=>ih g hg) hwf
end
def fC (G:Nat)(nm:List UInt8)(at_:Nat):List Tok→Res Fn
 | []=>.err 0 0
 | o::r=>if o.k=.opn then Zdy G nm at_ (pP r) else .err 2 o.at_
def fB (G:Nat):List Tok→Res Fn
 | []=>.err 0 0
 | n::r=>if Zbg n then fC G n.body n.at_ r else .err 2 n.at_
def fA (G:Nat):List Tok→Res Fn
 | []=>.err 0 0
 | u::r=>if Zg5 u then fB G r else .err 2 u.at_
def f0 (G:Nat):List Tok→Res Fn
 | []=>.err 0 0
 | t::r=>if t.k=.opn then fA G r else .err 2 t.at_
def Zb5 (l:List (ByteArray×Nat)):List (List UInt8×Nat):=l.map fun x=>(x.1.data.toList,x.2)
def addP (pre:List (List UInt8×Nat)):Res (List (List UInt8×Nat))→Res (List (List UInt8×Nat))
 | .ok ns r=>.ok (pre++ns) r
 | .err c a=>.err c a
theorem Z3s (pre:List (List UInt8×Nat))(n:List UInt8×Nat)(r:Res (List (List UInt8×Nat))):addP pre (Zig n r)=addP (pre++[n]) r:=by cases r<;>simp[addP,Zig]
theorem addP_nil (r:Res (List (List UInt8×Nat))):addP [] r=r:=by cases r<;>simp[addP]
theorem Z07 (G:Nat){l:List (Tok×ByteArray)}(hwf:Zfr l){k:Nat}(hk:k<l.length):Zfd G (Zan l k)=f0 G (Zan l k):=by
 rw[Zbk hk]
 by_cases h0:(l[k]'hk).1.k=.opn
 ·have hk1:=hwf.more k hk (by rw[h0];decide) (by rw[h0];decide)
  rw[Zbk hk1]
  cases h1:Zg5 (l[k+1]'hk1).1 with
  | false =>
   rcases hr:Zan l (k+1+1) with _ | ⟨n,_ | ⟨o,r⟩⟩<;>simp[Zfd,f0,fA,h0,h1]
  | true =>
   have w1:(l[k+1]'hk1).1.k=.word:=by simp only[Zg5,Bool.and_eq_true,decide_eq_true_eq] at h1;exact h1.1
   have hk2:=hwf.more (k+1) hk1 (by rw[w1];decide) (by rw[w1];decide)
   rw[Zbk hk2]
   cases h2:Zbg (l[k+1+1]'hk2).1 with
   | false =>
    rcases hr:Zan l (k+1+1+1) with _ | ⟨o,r⟩<;>simp[Zfd,f0,fA,fB,h0,h1,h2]
   | true =>
    have w2:(l[k+1+1]'hk2).1.k=.word:=by simp only[Zbg,Bool.and_eq_true,decide_eq_true_eq] at h2;exact h2.1
    have hk3:=hwf.more (k+1+1) hk2 (by rw[w2];decide) (by rw[w2];decide)
    rw[Zbk hk3]
    by_cases h3:(l[k+1+1+1]'hk3).1.k=.opn<;>simp[Zfd,f0,fA,fB,fC,h0,h1,h2,h3]
 ·rcases hr:Zan l (k+1) with _ | ⟨u,_ | ⟨n,_ | ⟨o,r⟩⟩⟩<;>simp[Zfd,f0,h0]
def Inv {α:Type}(l:List (Tok×ByteArray))(a0:Nat)(RES:Res α)(d0:Nat)(F:List Tok→Res α)(k d e a:Nat):Prop:=(e≠0∧RES=.err e a)∨(e=0∧d=d0∧a=a0∧RES=F (Zan l k))
section
variable {α:Type} {w:World} {rb tb cap:Nat} {l:List (Tok×ByteArray)} {fv pv:Value} {k d e a a0 d0:Nat} {RES:Res α} {F:List Tok→Res α}
def Zqo (rb tb cap:Nat)(l:List (Tok×ByteArray))(fv pv:Value)(I:Nat→Nat→Nat→Nat→Prop)(w:World)(r:Ending)(w':World):Prop :=
 ∃(v:Value) (k2 d2 e2 a2:Nat),r=.returned v∧Zaa (·=rb) w w'∧Rz w' rb tb cap l fv pv k2 d2 e2 a2∧Aside (I k2 d2 e2 a2)
theorem Zjx (hwf:Zfr l)(h:Rz w rb tb cap l fv pv k d e a)(hd0:d0<16)(hI:Inv l a0 RES d0 F k d e a)(F2:List Tok→Res α)(hF:∀t r,F (t::r)=if t.k=.opn then F2 r else .err 2 t.at_):
  Calls prog 97 #[.pointer (some ⟨rb,0,none⟩),.int .u8 40,.string ⟨#[]⟩] w (Zqo rb tb cap l fv pv (fun k2 d2 e2 a2=>Inv l a0 RES (d0+1) F2 k2 d2 e2 a2∧(e2=0→e=0∧k<k2)) w):=by
 have hk:=h.hk
 rcases hI with ⟨he,hr⟩ | ⟨rfl,rfl,rfl,hr⟩
 ·exact (Zb8 h he 40 ⟨#[]⟩).mono fun r w' ⟨h1,h2,h3⟩=>⟨_,k,d,e,a,h1,h2,h3,Or.inl ⟨he,hr⟩,fun h0=>absurd h0 he⟩
 ·rw[Zbk hk,hF] at hr
  by_cases hc:(l[k]'hk).1.k=.opn
  ·rw[if_pos hc] at hr
   have hk1:=hwf.more k hk (by rw[hc];decide) (by rw[hc];decide)
   exact (Zjy h (by rw[hc];rfl) hd0 hk1).mono fun r w' ⟨h1,h2,h3⟩=>⟨_,k+1,d+1,0,a,h1,h2,h3,Or.inr ⟨rfl,rfl,rfl,hr⟩,fun _=>⟨rfl,by omega⟩⟩
  ·rw[if_neg hc] at hr
   exact (Zge h 40 ⟨#[]⟩ fun e=>hc ((Zz9 _).1 e)).mono fun r w' ⟨h1,h2,h3⟩=>⟨_,k,d,2,_,h1,h2,h3,Or.inl ⟨by decide,hr⟩,fun h0=>absurd h0 (by decide)⟩
theorem Zq6 (hwf:Zfr l)(h:Rz w rb tb cap l fv pv k d e a)(hI:Inv l a0 RES (d0+1) F k d e a)(F2:List Tok→Res α)(hF:∀t r,F (t::r)=if t.k=.cls then F2 r else .err 2 t.at_):
  Calls prog 97 #[.pointer (some ⟨rb,0,none⟩),.int .u8 41,.string ⟨#[]⟩] w (Zqo rb tb cap l fv pv (fun k2 d2 e2 a2=>Inv l a0 RES d0 F2 k2 d2 e2 a2∧(e2=0→e=0∧k<k2)) w):=by
 have hk:=h.hk
 rcases hI with ⟨he,hr⟩ | ⟨rfl,rfl,rfl,hr⟩
 ·exact (Zb8 h he 41 ⟨#[]⟩).mono fun r w' ⟨h1,h2,h3⟩=>⟨_,k,d,e,a,h1,h2,h3,Or.inl ⟨he,hr⟩,fun h0=>absurd h0 he⟩
 ·rw[Zbk hk,hF] at hr
  by_cases hc:(l[k]'hk).1.k=.cls
  ·rw[if_pos hc] at hr
   have hk1:=hwf.more k hk (by rw[hc];decide) (by rw[hc];decide)
   exact (Zh2 h (by rw[hc];rfl) hk1).mono fun r w' ⟨h1,h2,h3⟩=>⟨_,k+1,d0,0,a,h1,h2,h3,Or.inr ⟨rfl,rfl,rfl,hr⟩,fun _=>⟨rfl,by omega⟩⟩
  ·rw[if_neg hc] at hr
   exact (Zge h 41 ⟨#[]⟩ fun e=>hc ((Zga _).1 e)).mono fun r w' ⟨h1,h2,h3⟩=>⟨_,k,d0+1,2,_,h1,h2,h3,Or.inl ⟨by decide,hr⟩,fun h0=>absurd h0 (by decide)⟩
theorem Zq5 (hwf:Zfr l)(h:Rz w rb tb cap l fv pv k d e a)(hI:Inv l a0 RES d0 F k d e a)(F2:List Tok→Res α)(hF:∀t r,F (t::r)=if Zg5 t then F2 r else .err 2 t.at_):
  Calls prog 97 #[.pointer (some ⟨rb,0,none⟩),.int .u8 97,.string funB] w (Zqo rb tb cap l fv pv (fun k2 d2 e2 a2=>Inv l a0 RES d0 F2 k2 d2 e2 a2∧(e2=0→e=0∧k<k2)) w):=by
 have hk:=h.hk
 have htx:=hwf.tx _ (List.getElem_mem hk)
 rcases hI with ⟨he,hr⟩ | ⟨rfl,rfl,rfl,hr⟩
 ·exact (Zb8 h he 97 funB).mono fun r w' ⟨h1,h2,h3⟩=>⟨_,k,d,e,a,h1,h2,h3,Or.inl ⟨he,hr⟩,fun h0=>absurd h0 he⟩
 ·rw[Zbk hk,hF] at hr
  cases hf:Zg5 (l[k]'hk).1 with
  | true =>
   rw[hf,if_pos rfl] at hr
   simp only[Zg5,Bool.and_eq_true,decide_eq_true_eq] at hf
   have hk1:=hwf.more k hk (by rw[hf.1];decide) (by rw[hf.1];decide)
   exact (over_fun h (by rw[hf.1];rfl) (by rw[ByteArray.toList_eq,htx];exact hf.2) hk1).mono fun r w' ⟨h1,h2,h3⟩=>⟨_,k+1,d,0,a,h1,h2,h3,Or.inr ⟨rfl,rfl,rfl,hr⟩,fun _=>⟨rfl,by omega⟩⟩
  | false =>
   rw[hf] at hr
   by_cases hc:(l[k]'hk).1.k=.word
   ·have hb:((l[k]'hk).1.body==[102,117,110])=false:=by simpa[Zg5,hc] using hf
    exact (Zyc h (by rw[hc];rfl) (by rw[ByteArray.toList_eq,htx];exact hb)).mono fun r w' ⟨h1,h2,h3⟩=>⟨_,k,d,2,_,h1,h2,h3,Or.inl ⟨by decide,hr⟩,fun h0=>absurd h0 (by decide)⟩
   ·exact (Zge h 97 funB fun e=>hc ((Zpf _).1 e)).mono fun r w' ⟨h1,h2,h3⟩=>⟨_,k,d,2,_,h1,h2,h3,Or.inl ⟨by decide,hr⟩,fun h0=>absurd h0 (by decide)⟩
def namePost (rb tb cap:Nat)(l:List (Tok×ByteArray))(fv pv:Value)(I:ByteArray→Nat→Nat→Nat→Nat→Nat→Prop)(w:World)(r:Ending)(w':World):Prop :=
 ∃(c:Int) (s:ByteArray) (p k2 d2 e2 a2:Nat),r=.returned (.agg #[.int .u8 c,.string s,.int .i64 ((p:Nat):Int)])∧Zaa (·=rb) w w'∧Rz w' rb tb cap l fv pv k2 d2 e2 a2∧Aside (I s p k2 d2 e2 a2)
theorem Zth (hwf:Zfr l)(h:Rz w rb tb cap l fv pv k d e a)(hI:Inv l a0 RES d0 F k d e a)(F2:List UInt8→Nat→List Tok→Res α)(hF:e=0→∀hk:k<l.length,F (Zan l k)=if Zbg (l[k]'hk).1 then F2 (l[k]'hk).1.body (l[k]'hk).1.at_ (Zan l (k+1)) else .err 2 (l[k]'hk).1.at_):
  Calls prog 98 #[.pointer (some ⟨rb,0,none⟩)] w (namePost rb tb cap l fv pv (fun s p k2 d2 e2 a2=>Inv l a0 RES d0 (F2 s.data.toList p) k2 d2 e2 a2∧(e2=0→e=0∧k<k2)) w):=by
 have hk:=h.hk
 have htx:=hwf.tx _ (List.getElem_mem hk)
 rcases hI with ⟨he,hr⟩ | ⟨rfl,rfl,rfl,hr⟩
 ·exact (name_err h he).mono fun r w' ⟨h1,h2,h3⟩=>⟨_,_,_,k,d,e,a,h1,h2,h3,Or.inl ⟨he,hr⟩,fun h0=>absurd h0 he⟩
 ·rw[hF rfl hk] at hr
  cases hf:Zbg (l[k]'hk).1 with
  | true =>
   rw[hf,if_pos rfl] at hr
   have w1:(l[k]'hk).1.k=.word:=by simp only[Zbg,Bool.and_eq_true,decide_eq_true_eq] at hf;exact hf.1
   have hk1:=hwf.more k hk (by rw[w1];decide) (by rw[w1];decide)
   exact (Zqu h hwf.tx hf hk1).mono fun r w' ⟨h1,h2,h3⟩=>⟨_,(l[k]'hk).2,(l[k]'hk).1.at_,k+1,d,0,a,h1,h2,h3,Or.inr ⟨rfl,rfl,rfl,by rw[htx];exact hr⟩,fun _=>⟨rfl,by omega⟩⟩
  | false =>
   rw[hf] at hr
   exact (Zqv h hwf.tx hf).mono fun r w' ⟨h1,h2,h3⟩=>⟨_,_,_,k,d,2,_,h1,h2,h3,Or.inl ⟨by decide,hr⟩,fun h0=>absurd h0 (by decide)⟩
end
structure Ze8 where
 name:ByteArray
 at_:Nat
 pv:Value
 lv:Value
 body:Nat
abbrev funO (nm:ByteArray)(at_:Nat)(pv lv:Value)(b:Nat):Obj:=.cells #[.string nm,.int .i64 ((at_:Nat):Int),pv,lv,.int .i64 ((b:Nat):Int)] 208
abbrev zFun:Obj:=.cells #[.string ⟨#[]⟩,.int .i64 0,.slice none 0 0,.slice none 0 0,.int .i64 0] 208
structure Gx (W:World)(B:Nat)(nm:ByteArray)(at_:Nat)(pv lv:Value)(b:Nat):Prop where
 blk:W.heap[B]?=some (funO nm at_ pv lv b)
theorem Gx.facts {W:World}{B:Nat}{nm:ByteArray}{at_:Nat}{pv lv:Value}{b:Nat}(h:Gx W B nm at_ pv lv b):W.cell? ⟨B,0,none⟩=some (.string nm)∧W.cell? ⟨B,1,none⟩=some (.int .i64 ((at_:Nat):Int))∧W.cell? ⟨B,2,none⟩=some pv∧W.cell? ⟨B,3,none⟩=some lv∧W.cell? ⟨B,4,none⟩=some (.int .i64 ((b:Nat):Int)):=by
 have hb:=h.blk
 refine⟨?_,?_,?_,?_,?_⟩<;>(unfold World.cell?;rw[hb];rfl)
theorem Gx.free {W:World}{B:Nat}{nm:ByteArray}{at_:Nat}{pv lv:Value}{b:Nat}(h:Gx W B nm at_ pv lv b)(j:Nat):W.frozen? ⟨B,j,none⟩=false:=by
 have hb:=h.blk
 unfold World.frozen?;rw[hb];simp
theorem Gx.same {W W':World}{B:Nat}{nm:ByteArray}{at_:Nat}{pv lv:Value}{b:Nat}(h:Gx W B nm at_ pv lv b)(hs:W'.heap[B]?=W.heap[B]?):Gx W' B nm at_ pv lv b:=⟨by rw[hs];exact h.blk⟩
theorem Tx.same {W W':World}{B:Nat}{c:Int}{s:ByteArray}{p:Nat}(h:Tx W B c s p)(hs:W'.heap[B]?=W.heap[B]?):Tx W' B c s p:=⟨by rw[hs];exact h.blk⟩
theorem Tx.free {W:World}{B:Nat}{c:Int}{s:ByteArray}{p:Nat}(h:Tx W B c s p)(j:Nat):W.frozen? ⟨B,j,none⟩=false:=by
 have hb:=h.blk
 unfold World.frozen?;rw[hb];simp
theorem Tx.set3 {W:World}{B:Nat}{c:Int}{s:ByteArray}{p:Nat}(h:Tx W B c s p)(c2:Int)(s2:ByteArray)(p2:Nat):Tx (((W.setCell ⟨B,0,none⟩ (.int .u8 c2)).setCell ⟨B,1,none⟩ (.string s2)).setCell ⟨B,2,none⟩ (.int .i64 ((p2:Nat):Int))) B c2 s2 p2:=⟨by rw[Zau (Zau (Zau h.blk _) _) _];rfl⟩
theorem Zqs {X:World}{B g:Nat}(h:g≠B)(x0 x1 x2:Value):(((X.setCell ⟨B,0,none⟩ x0).setCell ⟨B,1,none⟩ x1).setCell ⟨B,2,none⟩ x2).heap[g]?=X.heap[g]?:=by
 rw[Below.heap_setCell _ ⟨B,2,none⟩ _ g h,Below.heap_setCell _ ⟨B,1,none⟩ _ g h,Below.heap_setCell _ ⟨B,0,none⟩ _ g h]
abbrev Zco (qs:List ByteArray):List Value:=qs.map Value.string
structure GS (base rb tb cap:Nat)(l:List (Tok×ByteArray))(fv pv:Value)(ps:List Zaw)(w:World)(FB TB:Nat)(nm:ByteArray)(at_:Nat)(wr:World)(aad:Option Addr)(acp:Nat)(qs:List ByteArray)(lad:Option Addr)(lcp:Nat)(ls:List Nat)(k d e a:Nat):Prop where
 ht:Zaa (·=rb) w wr
 fb:Gx wr FB nm at_ (.slice aad qs.length acp) (.slice lad ls.length lcp) 0
 tx:∃c s p,Tx wr TB c s p
 po:wr.ownsRow w.heap.size 9 1 (.slice aad qs.length acp) qs.length (Zco qs)
 lo:wr.ownsRow w.heap.size 3 1 (.slice lad ls.length lcp) ls.length (Zg9 ls)
 pn:∀g,some g=(Value.slice aad qs.length acp).ownBlock→some g≠(Value.slice lad ls.length lcp).ownBlock∧g≠FB∧g≠TB
 ln:∀g,some g=(Value.slice lad ls.length lcp).ownBlock→g≠FB∧g≠TB
 rp:Rp wr base rb tb cap l fv pv k d e a ps
 hF:w.heap.size≤FB
 hT:w.heap.size≤TB
 hFT:FB≠TB
 hw:rb<w.heap.size∧tb<w.heap.size∧∀g,pv.ownBlock=some g→g<w.heap.size
section
variable {base rb tb cap:Nat} {l:List (Tok×ByteArray)} {fv pv:Value} {ps:List Zaw} {w:World} {FB TB:Nat} {nm:ByteArray} {at_:Nat} {wr:World} {aad:Option Addr} {acp:Nat} {qs:List ByteArray} {lad:Option Addr} {lcp:Nat} {ls:List Nat} {k d e a:Nat}
theorem GS.touch {X:World}{k2 d2 e2 a2:Nat}(h:GS base rb tb cap l fv pv ps w FB TB nm at_ wr aad acp qs lad lcp ls k d e a)(ht:Zaa (·=rb) wr X)(hz:Rz X rb tb cap l fv pv k2 d2 e2 a2):GS base rb tb cap l fv pv ps w FB TB nm at_ X aad acp qs lad lcp ls k2 d2 e2 a2:=by
 have hw:=h.hw
 have hF:=h.hF
 have hT:=h.hT
 obtain⟨c,s,p,tx⟩:=h.tx
 exact { h with
  ht:=h.ht.trans ht
  fb:=h.fb.same (ht.block FB (Zag h.fb.blk) (by show ¬ FB=rb;omega))
  tx:=⟨c,s,p,tx.same (ht.block TB (Zag tx.blk) (by show ¬ TB=rb;omega))⟩
  po:=Zay h.po fun g hg=>ht.block g (h.po.lt g hg).2 (by have:=(h.po.lt g hg).1;show ¬ g=rb;omega)
  lo:=Zay h.lo fun g hg=>ht.block g (h.lo.lt g hg).2 (by have:=(h.lo.lt g hg).1;show ¬ g=rb;omega)
  rp:=h.rp.touch ht hz }
theorem GS.below {X:World}(h:GS base rb tb cap l fv pv ps w FB TB nm at_ wr aad acp qs lad lcp ls k d e a)(hb:Below wr.heap.size wr X):GS base rb tb cap l fv pv ps w FB TB nm at_ X aad acp qs lad lcp ls k d e a:=h.touch (Zaa.of_below hb) (h.rp.z.below hb)
theorem GS.tok (h:GS base rb tb cap l fv pv ps w FB TB nm at_ wr aad acp qs lad lcp ls k d e a)(c2:Int)(s2:ByteArray)(p2:Nat):GS base rb tb cap l fv pv ps w FB TB nm at_ (((wr.setCell ⟨TB,0,none⟩ (.int .u8 c2)).setCell ⟨TB,1,none⟩ (.string s2)).setCell ⟨TB,2,none⟩ (.int .i64 ((p2:Nat):Int))) aad acp qs lad lcp ls k d e a∧Tx (((wr.setCell ⟨TB,0,none⟩ (.int .u8 c2)).setCell ⟨TB,1,none⟩ (.string s2)).setCell ⟨TB,2,none⟩ (.int .i64 ((p2:Nat):Int))) TB c2 s2 p2:=by
 have hw:=h.hw
 have hT:=h.hT
 obtain⟨c,s,p,tx⟩:=h.tx
 have n1:some TB≠pv.ownBlock:=fun e=>by have:=hw.2.2 TB e.symm;omega
 refine⟨{ h with ht:=((h.ht.setCell (p:=⟨TB,0,none⟩) (Or.inr hT) _).setCell (p:=⟨TB,1,none⟩) (Or.inr hT) _).setCell (p:=⟨TB,2,none⟩) (Or.inr hT) _,fb:=h.fb.same (Zqs h.hFT _ _ _),tx:=⟨_,_,_,tx.set3 c2 s2 p2⟩,po:=Zay h.po fun g hg=>Zqs (h.pn g hg.symm).2.2 _ _ _,lo:=Zay h.lo fun g hg=>Zqs (h.ln g hg.symm).2 _ _ _,rp:=((h.rp.other (by omega) (by omega) n1 _ _).other (by omega) (by omega) n1 _ _).other (by omega) (by omega) n1 _ _ },tx.set3 c2 s2 p2⟩
theorem GS.par {w3:World}{o:Obj}{aad2:Option Addr}{acp2:Nat}{s:ByteArray}(h:GS base rb tb cap l fv pv ps w FB TB nm at_ wr aad acp qs lad lcp ls k d e a)
  (own3:w3.ownsRow w.heap.size 9 1 (.slice aad2 (qs.length+1) acp2) (qs.length+1) (Zco qs++[.string s])) (hg3:(wr.alloc o).grownBy w3 (Value.slice aad qs.length acp).ownBlock) (hat3:(Value.slice aad2 (qs.length+1) acp2).ownBlock=(Value.slice aad qs.length acp).ownBlock∨(Value.slice aad2 (qs.length+1) acp2).ownBlock=some (wr.alloc o).heap.size) :
  GS base rb tb cap l fv pv ps w FB TB nm at_ (w3.setCell ⟨FB,2,none⟩ (.slice aad2 (qs.length+1) acp2)) aad2 acp2 (qs++[s]) lad lcp ls k d e a∧Gx w3 FB nm at_ (.slice aad qs.length acp) (.slice lad ls.length lcp) 0∧(∀c s p,Tx wr TB c s p→Tx w3 TB c s p∧Tx (w3.setCell ⟨FB,2,none⟩ (.slice aad2 (qs.length+1) acp2)) TB c s p):=by
 have hw:=h.hw
 have hF:=h.hF
 have hT:=h.hT
 have sz3:=hg3.size
 simp at sz3
 have ltF:=Zag h.fb.blk
 obtain⟨c,s0,p,tx⟩:=h.tx
 have ltT:=Zag tx.blk
 have ltp:∀g,some g=(Value.slice aad qs.length acp).ownBlock→w.heap.size≤g∧g<wr.heap.size:=fun g hg=>h.po.lt g hg.symm
 have ltl:∀g,some g=(Value.slice lad ls.length lcp).ownBlock→w.heap.size≤g∧g<wr.heap.size:=fun g hg=>h.lo.lt g hg.symm
 have b3:∀g,g<wr.heap.size→some g≠(Value.slice aad qs.length acp).ownBlock→w3.heap[g]?=wr.heap[g]?:=fun g hg hn=>by
  rw[hg3.block g (by simp;omega) hn,(Zab wr o).block g hg]
 have kF:some FB≠(Value.slice aad qs.length acp).ownBlock:=fun e=>(h.pn FB e).2.1 rfl
 have kT:some TB≠(Value.slice aad qs.length acp).ownBlock:=fun e=>(h.pn TB e).2.2 rfl
 have fb3:=h.fb.same (b3 FB ltF kF)
 have hk2:∀g,some g=(Value.slice aad2 (qs.length+1) acp2).ownBlock→some g≠(Value.slice lad ls.length lcp).ownBlock∧g≠FB∧g≠TB:=by
  intro g hg
  rcases hat3 with e | e
  ·rw[e] at hg;exact h.pn g hg
  ·rw[e] at hg
   simp at hg
   subst hg
   exact⟨fun e2=>by have:=(ltl _ e2).2;omega,by omega,by omega⟩
 have rp3:Rp w3 base rb tb cap l fv pv k d e a ps:=by
  have hlt:=h.rp.lt
  have z:=h.rp.z.keep (b3 rb hlt.1 fun e=>by have:=(ltp rb e).1;omega) (b3 tb hlt.2.1 fun e=>by have:=(ltp tb e).1;omega)
  exact⟨z,Zay h.rp.own fun g hg=>b3 g (hlt.2.2 g hg).2 fun e=>by have:=(ltp g e).1;have:=hw.2.2 g hg;omega,h.rp.nr,h.rp.nt,by have:=h.rp.hb;omega⟩
 have nF:some FB≠pv.ownBlock:=fun e=>by have:=hw.2.2 FB e.symm;omega
 have far:∀g,g≠FB→(w3.setCell ⟨FB,2,none⟩ (.slice aad2 (qs.length+1) acp2)).heap[g]?=w3.heap[g]?:=fun g hg=>Below.heap_setCell _ ⟨FB,2,none⟩ _ g hg
 refine⟨{ h with ht:=?_,fb:=⟨?_⟩,tx:=⟨c,s0,p,tx.same (by rw[far TB h.hFT.symm,b3 TB ltT kT])⟩,po:=?_,lo:=Zay h.lo fun g hg=>by rw[far g (h.ln g hg.symm).1,b3 g (ltl g hg.symm).2 fun e=>(h.pn g e).1 hg.symm],pn:=?_,ln:=h.ln,rp:=rp3.other (by omega) (by omega) nF _ _ },fb3,fun c s p t=>⟨t.same (b3 TB ltT kT),t.same (by rw[far TB h.hFT.symm,b3 TB ltT kT])⟩⟩
 ·refine Zaa.setCell ?_ (p:=⟨FB,2,none⟩) (Or.inr hF) _
  exact Zcy h.ht (T:=fun g=>some g=(Value.slice aad qs.length acp).ownBlock) ⟨by rw[hg3.os];rfl,by rw[hg3.tape];rfl,by rw[hg3.output];rfl,by omega,fun g hg hn=>b3 g hg hn⟩ fun g hg=>Or.inr (ltp g hg).1
 ·rw[Zau fb3.blk];simp
 ·rw[List.length_append]
  refine Zay ?_ fun g hg=>far g (hk2 g (by simpa using hg.symm)).2.1
  simpa[Zco] using own3
 ·intro g hg;exact hk2 g (by simpa using hg)
theorem GS.pla {w3:World}{o:Obj}{lad2:Option Addr}{lcp2 p:Nat}(h:GS base rb tb cap l fv pv ps w FB TB nm at_ wr aad acp qs lad lcp ls k d e a)
  (own3:w3.ownsRow w.heap.size 3 1 (.slice lad2 (ls.length+1) lcp2) (ls.length+1) (Zg9 ls++[.int .i64 ((p:Nat):Int)])) (hg3:(wr.alloc o).grownBy w3 (Value.slice lad ls.length lcp).ownBlock) (hat3:(Value.slice lad2 (ls.length+1) lcp2).ownBlock=(Value.slice lad ls.length lcp).ownBlock∨(Value.slice lad2 (ls.length+1) lcp2).ownBlock=some (wr.alloc o).heap.size) :
  GS base rb tb cap l fv pv ps w FB TB nm at_ (w3.setCell ⟨FB,3,none⟩ (.slice lad2 (ls.length+1) lcp2)) aad acp qs lad2 lcp2 (ls++[p]) k d e a∧Gx w3 FB nm at_ (.slice aad qs.length acp) (.slice lad ls.length lcp) 0:=by
 have hw:=h.hw
 have hF:=h.hF
 have hT:=h.hT
 have sz3:=hg3.size
 simp at sz3
 have ltF:=Zag h.fb.blk
 obtain⟨c,s0,p0,tx⟩:=h.tx
 have ltT:=Zag tx.blk
 have ltp:∀g,some g=(Value.slice aad qs.length acp).ownBlock→w.heap.size≤g∧g<wr.heap.size:=fun g hg=>h.po.lt g hg.symm
 have ltl:∀g,some g=(Value.slice lad ls.length lcp).ownBlock→w.heap.size≤g∧g<wr.heap.size:=fun g hg=>h.lo.lt g hg.symm
 have b3:∀g,g<wr.heap.size→some g≠(Value.slice lad ls.length lcp).ownBlock→w3.heap[g]?=wr.heap[g]?:=fun g hg hn=>by
  rw[hg3.block g (by simp;omega) hn,(Zab wr o).block g hg]
 have kF:some FB≠(Value.slice lad ls.length lcp).ownBlock:=fun e=>(h.ln FB e).1 rfl
 have kT:some TB≠(Value.slice lad ls.length lcp).ownBlock:=fun e=>(h.ln TB e).2 rfl
 have fb3:=h.fb.same (b3 FB ltF kF)
 have hk2:∀g,some g=(Value.slice lad2 (ls.length+1) lcp2).ownBlock→some g≠(Value.slice aad qs.length acp).ownBlock∧g≠FB∧g≠TB:=by
  intro g hg
  rcases hat3 with e | e
  ·rw[e] at hg;exact⟨fun e2=>(h.pn g e2).1 hg,h.ln g hg⟩
  ·rw[e] at hg
   simp at hg
   subst hg
   exact⟨fun e2=>by have:=(ltp _ e2).2;omega,by omega,by omega⟩
 have rp3:Rp w3 base rb tb cap l fv pv k d e a ps:=by
  have hlt:=h.rp.lt
  have z:=h.rp.z.keep (b3 rb hlt.1 fun e=>by have:=(ltl rb e).1;omega) (b3 tb hlt.2.1 fun e=>by have:=(ltl tb e).1;omega)
  exact⟨z,Zay h.rp.own fun g hg=>b3 g (hlt.2.2 g hg).2 fun e=>by have:=(ltl g e).1;have:=hw.2.2 g hg;omega,h.rp.nr,h.rp.nt,by have:=h.rp.hb;omega⟩
 have nF:some FB≠pv.ownBlock:=fun e=>by have:=hw.2.2 FB e.symm;omega
 have far:∀g,g≠FB→(w3.setCell ⟨FB,3,none⟩ (.slice lad2 (ls.length+1) lcp2)).heap[g]?=w3.heap[g]?:=fun g hg=>Below.heap_setCell _ ⟨FB,3,none⟩ _ g hg
 refine⟨{ h with ht:=?_,fb:=⟨?_⟩,tx:=⟨c,s0,p0,tx.same (by rw[far TB h.hFT.symm,b3 TB ltT kT])⟩,lo:=?_,po:=Zay h.po fun g hg=>by rw[far g (h.pn g hg.symm).2.1,b3 g (ltp g hg.symm).2 (h.pn g hg.symm).1],pn:=?_,ln:=?_,rp:=rp3.other (by omega) (by omega) nF _ _ },fb3⟩
 ·refine Zaa.setCell ?_ (p:=⟨FB,3,none⟩) (Or.inr hF) _
  exact Zcy h.ht (T:=fun g=>some g=(Value.slice lad ls.length lcp).ownBlock) ⟨by rw[hg3.os];rfl,by rw[hg3.tape];rfl,by rw[hg3.output];rfl,by omega,fun g hg hn=>b3 g hg hn⟩ fun g hg=>Or.inr (ltl g hg).1
 ·rw[Zau fb3.blk];simp
 ·rw[List.length_append]
  refine Zay ?_ fun g hg=>far g (hk2 g (by simpa using hg.symm)).2.1
  simpa[Zg9] using own3
 ·intro g hg
  refine⟨fun e=>(hk2 g (by simpa using e)).1 hg,(h.pn g hg).2⟩
 ·intro g hg;exact (hk2 g (by simpa using hg)).2
end
theorem Zhi {P:Program}{ops:Array Oper}{o:Oper}{a:Act}{w:World}{K:Act→World→Prop}{Q:Exit→Act→World→Prop}{E:Prop}
  (hg:o.guard=none) (s x:Operand) (t:TypeId) (hop:o.op=Op.call { callee:=Callee.builtin Builtin.append,args:=#[s,x],argTypes:=#[t,t] })
  (base:Nat) (e:TypeId) (i:TypeInfo) (z:Value) (size bytes:Nat) (h1:P.underlying t=some (.slice e)) (h2:P.info? e=some i) (h3:i.zero=some z) (h4:i.size=size) (h5:i.bytes=bytes) (h6:z.cells.size=size) (h7:0<size)
  (v:Value) (n:Nat) (xs:List Value) (hs:a.eval s=v) (hown:w.ownsRow base e size v n xs)
  (ad:Addr) (m c:Nat) (news:List Value) (hx:a.eval x=.slice (some ad) m c) (hn:news.length=m*size) (hc:∀j u,news[j]?=some u→w.cell? (ad.add j)=some u) (h1c:∀u∈news,u.oneCell'=true)
  (b1:n+m≤maxLen) (b2:(n+m)*bytes≤140737488355328) (hbase:base≤w.heap.size)
  (hK:∀v' w',w'.ownsRow base e size v' (n+m) (xs++news)→w.grownBy w' v.ownBlock→(v'.ownBlock=v.ownBlock∨v'.ownBlock=some w.heap.size)→K (a.put o.dst v') w') :
  if Region.wanted o (yielded ops a.tmps)=true then Oper.wp P o a w K Q else E:=by
 have hw:Region.wanted o (yielded ops a.tmps)=true:=by simp[Region.wanted,hg]
 rw[if_pos hw]
 obtain⟨v',w',hrun,r1,r2,r3,r4⟩:=run_append_own_at (P:=P) w base t o.type e i z size bytes h1 h2 h3 h4 h5 h6 h7 v n xs hown ad m c news hn hc h1c b1 b2 hbase
 unfold Oper.wp
 simp[execOp,hop,resolve,invoke,builtin,hs,hx,hrun,Result.andThen]
 exact hK v' w' r1 r2 r4
section
variable {base rb tb cap:Nat} {l:List (Tok×ByteArray)} {fv pv:Value} {ps:List Zaw} {w:World} {k d e a:Nat}
theorem GS.start {w3:World}{k3 d3 e3 a3:Nat}(h:Rp w base rb tb cap l fv pv k d e a ps)(T:Zaa (·=rb) (w.alloc zFun) w3)(rp3:Rp w3 base rb tb cap l fv pv k3 d3 e3 a3 ps)(c:Int)(s:ByteArray)(p:Nat):
  GS base rb tb cap l fv pv ps w w.heap.size w3.heap.size s p (((w3.alloc (Zc3 c s p)).setCell ⟨w.heap.size,0,none⟩ (.string s)).setCell ⟨w.heap.size,1,none⟩ (.int .i64 ((p:Nat):Int))) none 0 [] none 0 [] k3 d3 e3 a3∧Gx (w3.alloc (Zc3 c s p)) w.heap.size ⟨#[]⟩ 0 (.slice none 0 0) (.slice none 0 0) 0:=by
 have hlt:=h.lt
 have sz:=T.size
 simp at sz
 have fb0:Gx (w.alloc zFun) w.heap.size ⟨#[]⟩ 0 (.slice none 0 0) (.slice none 0 0) 0:=⟨heap_alloc_new _ _⟩
 have fb3:=(fb0.same (T.block w.heap.size (by simp) (by show ¬ w.heap.size=rb;omega))).same ((Zab w3 (Zc3 c s p)).block w.heap.size (by omega))
 have nF:some w.heap.size≠pv.ownBlock:=fun e=>by have:=(hlt.2.2 _ e.symm).2;omega
 refine⟨⟨?_,⟨?_⟩,⟨c,s,p,?_⟩,World.ownsRow_nil _ _ _ _,World.ownsRow_nil _ _ _ _,fun g hg=>(by cases hg),fun g hg=>(by cases hg),?_,Nat.le_refl _,by omega,by omega,hlt.1,hlt.2.1,fun g hg=>(hlt.2.2 g hg).2⟩,fb3⟩
 ·exact ((((((Zaa.refl (·=rb) w).alloc zFun).trans T).alloc _).setCell (p:=⟨w.heap.size,0,none⟩) (Or.inr (Nat.le_refl _)) _).setCell (p:=⟨w.heap.size,1,none⟩) (Or.inr (Nat.le_refl _)) _)
 ·rw[Zau (Zau fb3.blk _)];rfl
 ·refine (Za9 w3 c s p).same ?_
  rw[Below.heap_setCell _ ⟨w.heap.size,1,none⟩ _ _ (by show w3.heap.size≠w.heap.size;omega),Below.heap_setCell _ ⟨w.heap.size,0,none⟩ _ _ (by show w3.heap.size≠w.heap.size;omega)]
 ·exact ((rp3.alloc _).other (by omega) (by omega) nF _ _).other (by omega) (by omega) nF _ _
def GLoop (base rb tb cap:Nat)(l:List (Tok×ByteArray))(fv pv:Value)(ps:List Zaw)(w:World)(FB TB:Nat)(nm:ByteArray)(at_ a0 k0 G:Nat)(RES:Res Fn)(gh:Nat)(wr:World):Prop :=
 ∃(aad:Option Addr) (acp:Nat) (qs:List ByteArray) (lad:Option Addr) (lcp:Nat) (ls:List Nat) (k d e a:Nat),GS base rb tb cap l fv pv ps w FB TB nm at_ wr aad acp qs lad lcp ls k d e a ∧
  Aside ((e≠0∧gh=0∧RES=.err e a)∨(e=0∧gh=l.length-k+1∧d=2∧a=a0∧qs.length=ls.length∧ls.length+(l.length-k)≤3000∧k0<k∧RES=Zdy G nm.data.toList at_ (addP (Zb5 (qs.zip ls)) (pP (Zan l k)))))
def Zbt:List Ze8→List Value
 | []=>[]
 | f::r=>.string f.name::.int .i64 ((f.at_:Nat):Int)::f.pv::f.lv::.int .i64 ((f.body:Nat):Int)::Zbt r
theorem Zrq (fs:List Ze8)(f:Ze8):Zbt (fs++[f])=Zbt fs++[.string f.name,.int .i64 ((f.at_:Nat):Int),f.pv,f.lv,.int .i64 ((f.body:Nat):Int)]:=by
 induction fs with
 | nil=>rfl
 | cons y l ih=>simp[Zbt,ih]
theorem Zod:∀(fs:List Ze8) (j:Nat) (f:Ze8),fs[j]?=some f→(Zbt fs)[j*5]?=some (.string f.name)∧(Zbt fs)[j*5+1]?=some (.int .i64 ((f.at_:Nat):Int))∧(Zbt fs)[j*5+2]?=some f.pv∧(Zbt fs)[j*5+3]?=some f.lv∧(Zbt fs)[j*5+4]?=some (.int .i64 ((f.body:Nat):Int))
 | [],j,p,hj=>by simp at hj
 | x::r,0,p,hj=>by simp at hj;subst hj;exact⟨rfl,rfl,rfl,rfl,rfl⟩
 | x::r,j+1,p,hj=>by
  have:=Zod r j p (by simpa using hj)
  rw[show (j+1)*5=j*5+1+1+1+1+1 by omega]
  simpa[Zbt] using this
theorem Tryz.infoFun:(prog.info? 208).map (fun i=>(i.zero,i.size,i.bytes))=some (some (.agg #[.string ⟨#[]⟩,.int .i64 0,.slice none 0 0,.slice none 0 0,.int .i64 0]),5,80):=by kernel_rfl
theorem Tryz.infoStrR:(prog.info? 9).map (fun i=>(i.zero,i.size,i.bytes))=some (some (.string ⟨#[]⟩),1,16):=by kernel_rfl
def Zxc (w:World)(D:Nat→Prop)(ps:List Zaw)(fn:Fn)(f:Ze8):Prop :=
 f.name.data.toList=fn.name∧f.at_=fn.at_∧(∃(qs:List ByteArray) (ls:List Nat),qs.length=ls.length∧Zb5 (qs.zip ls)=fn.params∧Zao w D 9 1 f.pv qs.length (Zco qs)∧Zao w D 3 1 f.lv ls.length (Zg9 ls))∧Ze0 w D ps 0 fn.body f.body
def Zrp (RES:Res Fn)(base rb tb cap:Nat)(l:List (Tok×ByteArray))(fv pv:Value)(a0 k:Nat)(ps:List Zaw)(fs:List Ze8)(w:World)(r:Ending)(w':World):Prop :=
 r=.returned (.tuple #[])∧Zaa (fun g=>g=rb∨some g=pv.ownBlock∨some g=fv.ownBlock) w w'∧∃(fv' pv':Value) (ps':List Zaw) (f:Ze8) (k' d' e' a':Nat),Rp w' base rb tb cap l fv' pv' k' d' e' a' ps'∧w'.ownsRow base 208 5 fv' (fs++[f]).length (Zbt (fs++[f]))∧Zea w pv pv'∧Zea w fv fv'∧(∀g,some g=fv'.ownBlock→some g≠pv'.ownBlock∧g≠rb∧g≠tb) ∧
  Aside ((e'≠0∧RES=.err e' a')∨(e'=0∧d'=0∧a'=a0∧k<k'∧ps <+: ps'∧ps'.length+(l.length-k')≤ps.length+(l.length-k)∧∃fn,RES=.ok fn (Zan l k')∧Zxc w' (fun g=>w.heap.size≤g∧some g≠pv'.ownBlock∧some g≠fv'.ownBlock) ps' fn f))
theorem Zj6 {X w7:World}{o:Obj}{RES:Res Fn}{v' pv':Value}{a0 k' d' e' a':Nat}{ps':List Zaw}{fs:List Ze8}{f:Ze8}(T:Zaa (fun g=>g=rb∨some g=pv.ownBlock∨some g=fv.ownBlock) w X)(hrb:rb<w.heap.size)(rp:Rp X base rb tb cap l fv pv' k' d' e' a' ps')(mv:Zea w pv pv')
  (hfd:∀g,some g=fv.ownBlock→some g≠pv'.ownBlock∧g≠rb∧g≠tb) (hltF:∀g,fv.ownBlock=some g→g<w.heap.size)
  (own7:w7.ownsRow base 208 5 v' (fs.length+1) (Zbt fs++[.string f.name,.int .i64 ((f.at_:Nat):Int),f.pv,f.lv,.int .i64 ((f.body:Nat):Int)])) (hg7:(X.alloc o).grownBy w7 fv.ownBlock) (hat7:v'.ownBlock=fv.ownBlock∨v'.ownBlock=some (X.alloc o).heap.size)
  (hres:(e'≠0∧RES=.err e' a')∨(e'=0∧d'=0∧a'=a0∧k<k'∧ps <+: ps'∧ps'.length+(l.length-k')≤ps.length+(l.length-k)∧∃fn,RES=.ok fn (Zan l k')∧Zxc X (fun g=>w.heap.size≤g∧some g≠pv'.ownBlock) ps' fn f)) :
  Zrp RES base rb tb cap l fv pv a0 k ps fs w (.returned (.tuple #[])) (w7.setCell ⟨rb,5,none⟩ v'):=by
 have hlt:=rp.lt
 have sz7:=hg7.size
 simp at sz7
 have szX:=T.size
 have b7:∀g,g<X.heap.size→some g≠fv.ownBlock→w7.heap[g]?=X.heap[g]?:=fun g hg hn=>by
  rw[hg7.block g (by simp;omega) hn,(Zab X o).block g hg]
 have nrb:some rb≠fv.ownBlock:=fun e=>(hfd rb e).2.1 rfl
 have ntb:some tb≠fv.ownBlock:=fun e=>(hfd tb e).2.2 rfl
 have hv:∀g,some g=v'.ownBlock→some g≠pv'.ownBlock∧g≠rb∧g≠tb:=by
  intro g hg
  rcases hat7 with e | e
  ·rw[e] at hg;exact hfd g hg
  ·rw[e] at hg
   simp at hg
   subst hg
   exact⟨fun e2=>by have:=(hlt.2.2 _ e2.symm).2;omega,by omega,by omega⟩
 have z7:Rz w7 rb tb cap l fv pv' k' d' e' a':=rp.z.keep (b7 rb hlt.1 nrb) (b7 tb hlt.2.1 ntb)
 have far:∀g,g≠rb→(w7.setCell ⟨rb,5,none⟩ v').heap[g]?=w7.heap[g]?:=fun g hg=>Below.heap_setCell _ ⟨rb,5,none⟩ _ g hg
 refine⟨rfl,?_,v',pv',ps',f,k',d',e',a',⟨z7.set5 v',Zay rp.own fun g hg=>?_,rp.nr,rp.nt,?_⟩,Zay ?_ fun g hg=>far g (hv g hg.symm).2.1,mv,?_,hv,?_⟩
 ·refine Zaa.setCell ?_ (p:=⟨rb,5,none⟩) (Or.inl (Or.inl rfl)) _
  exact Zcy T (T:=fun g=>some g=fv.ownBlock) ⟨by rw[hg7.os];rfl,by rw[hg7.tape];rfl,by rw[hg7.output];rfl,by omega,fun g hg hn=>b7 g hg hn⟩ fun g hg=>Or.inl (Or.inr (Or.inr hg))
 ·rw[far g (fun e=>rp.nr (by rw[hg,e])),b7 g (hlt.2.2 g hg).2 fun e=>(hfd g e).1 hg.symm]
 ·have:=rp.hb;simp[World.setCell];omega
 ·rw[List.length_append,Zrq];exact own7
 ·rcases hat7 with e | e
  ·exact Or.inl e
  ·exact Or.inr ⟨_,e,by simp;omega⟩
 ·rcases hres with h1 | ⟨h1,h2,h3,h4,h5,h6,fn,h7,h8⟩
  ·exact Or.inl h1
  ·refine Or.inr ⟨h1,h2,h3,h4,h5,h6,fn,h7,?_⟩
   have hR:∀t sl n vs,Zao X (fun g=>w.heap.size≤g∧some g≠pv'.ownBlock) t 1 sl n vs→Zao (w7.setCell ⟨rb,5,none⟩ v') (fun g=>w.heap.size≤g∧some g≠pv'.ownBlock∧some g≠v'.ownBlock) t 1 sl n vs:=by
    intro t sl n vs hr
    refine (hr.keep (w':=w7.setCell ⟨rb,5,none⟩ v') fun g hg hlt=>?_).weaken fun g hg=>⟨hg.1.1,hg.1.2,fun e=>?_⟩
    ·rw[far g (by omega),b7 g hlt fun e=>by have:=hltF g e.symm;omega]
    ·rcases hat7 with e2 | e2
     ·rw[e2] at e;have:=hltF g e.symm;omega
     ·rw[e2] at e;simp at e;have:=hg.2;omega
   obtain⟨g1,g2,⟨qs,ls,g3,g4,g5,g6⟩,g7⟩:=h8
   exact⟨g1,g2,⟨qs,ls,g3,g4,hR _ _ _ _ g5,hR _ _ _ _ g6⟩,g7.map (fun i q _ hq=>hq) (Nat.le_refl _) (fun sl n vs hr=>hR _ _ _ _ hr)⟩
theorem Zh9 {RES:Res Fn}{a0:Nat}{fs:List Ze8}{r:Ending}{w':World}(h:Zrp RES base rb tb cap l fv pv a0 k ps fs w r w'):Zrp RES base rb tb cap l fv pv a0 k ps fs w r w'.drew:=by
 obtain⟨h1,h2,fv',pv',ps',f,k',d',e',a',h3,h4,h5,h6,h7,h8⟩:=h
 refine⟨h1,h2.drew,fv',pv',ps',f,k',d',e',a',h3.drew,h4.drew,h5,h6,h7,?_⟩
 rcases h8.out with g | ⟨g1,g2,g3,g4,g5,g6,fn,g7,q1,q2,⟨qs,ls,q3,q4,q5,q6⟩,q7⟩
 ·exact Or.inl g
 ·exact Or.inr ⟨g1,g2,g3,g4,g5,g6,fn,g7,q1,q2,⟨qs,ls,q3,q4,q5,q6⟩,Ze0.map (w:=w') (w':=w'.drew) (fun _ _ _ h=>h) (Nat.le_refl _) (fun _ _ _ h=>h) q7⟩
theorem GS.rows {X:World}{FB TB:Nat}{nm:ByteArray}{at_:Nat}{wr:World}{aad:Option Addr}{acp:Nat}{qs:List ByteArray}{lad:Option Addr}{lcp:Nat}{ls:List Nat}{pv':Value}(h:GS base rb tb cap l fv pv ps w FB TB nm at_ wr aad acp qs lad lcp ls k d e a)(hX:∀g,w.heap.size≤g→g<wr.heap.size→g≠FB→X.heap[g]?=wr.heap[g]?)(mv:Zea wr pv pv'):
  Zao X (fun g=>w.heap.size≤g∧some g≠pv'.ownBlock) 9 1 (.slice aad qs.length acp) qs.length (Zco qs)∧Zao X (fun g=>w.heap.size≤g∧some g≠pv'.ownBlock) 3 1 (.slice lad ls.length lcp) ls.length (Zg9 ls):=by
 have key:∀g,w.heap.size≤g→g<wr.heap.size→some g≠pv'.ownBlock:=by
  intro g h1 h2 e
  rcases mv.own g e with e2 | e2
  ·have:=h.hw.2.2 g e2.symm;omega
  ·omega
 have rk:∀(t:TypeId) (v:Value) (n:Nat) (xs:List Value),wr.ownsRow w.heap.size t 1 v n xs→(∀g,some g=v.ownBlock→g≠FB)→Zao X (fun g=>w.heap.size≤g∧some g≠pv'.ownBlock) t 1 v n xs:=by
  intro t v n xs ho hne
  obtain⟨q1,q2⟩:=ho
  refine⟨q1,?_⟩
  rcases q2 with g | ⟨g,cp,cur,hv,hg,hh,r⟩
  ·exact Or.inl g
  ·exact Or.inr ⟨g,cp,cur,hv,⟨hg,key g hg (Zag hh)⟩,by rw[hX g hg (Zag hh) (hne g (by rw[hv];rfl))];exact hh,r⟩
 exact⟨rk _ _ _ _ h.po fun g hg=>(h.pn g hg).2.1,rk _ _ _ _ h.lo fun g hg=>(h.ln g hg).1⟩
theorem Zek (w:World)(x1 x2 x3 x4 x5:Value)(t:TypeId):∀j v,[x1,x2,x3,x4,x5][j]?=some v→(w.alloc (.cells #[x1,x2,x3,x4,x5] t)).cell? ((⟨w.heap.size,0,none⟩:Addr).add j)=some v:=by
 intro j v hj
 match j,hj with
 | 0,hj=>simp at hj;subst hj;simp[Addr.add]
 | 1,hj=>simp at hj;subst hj;simp[Addr.add]
 | 2,hj=>simp at hj;subst hj;simp[Addr.add]
 | 3,hj=>simp at hj;subst hj;simp[Addr.add]
 | 4,hj=>simp at hj;subst hj;simp[Addr.add]
 | j+5,hj=>simp at hj
theorem Zoc {X w7:World}{o:Obj}{row:Option Nat}{v:Value}(hg:(X.alloc o).grownBy w7 row)(hr:some rb≠row)(hc:X.cell? ⟨rb,5,none⟩=some v)(hf:X.frozen? ⟨rb,5,none⟩=false):w7.cell? ⟨rb,5,none⟩=some v∧w7.frozen? ⟨rb,5,none⟩=false:=by
 have hlt:rb<X.heap.size:=Zae hc
 have hb:w7.heap[rb]?=X.heap[rb]?:=by rw[hg.block rb (by simp;omega) hr,(Zab X o).block rb hlt]
 exact⟨by rw[World.cell?_of_block (w:=X) hb];exact hc,by rw[World.frozen?_of_block (w:=X) hb];exact hf⟩
theorem Z3l {G k':Nat}(_hG:(Zan l k').length≤G+1)(hk:k'<l.length)(nm:List UInt8)(at_:Nat)(ns:List (List UInt8×Nat)):
  Zr2 nm at_ ns (pL (G+1) 1 1 (Zan l k'))=Zr2 nm at_ ns (Znh G 1 1 (pE (pL G) 1 (Zan l k'))):=by
 rw[Zbk hk,Znv (by decide) (fun h=>absurd h (by decide))]
def fD (G:Nat)(nm:List UInt8)(at_:Nat)(ns:List (List UInt8×Nat))(ex:Ex):List Tok→Res Fn:=fun ts=>Zr2 nm at_ ns (Zgh ex (pL G 1 0 ts))
theorem fD_cons (G:Nat)(nm:List UInt8)(at_:Nat)(ns:List (List UInt8×Nat))(ex:Ex)(t:Tok)(r:List Tok):fD (G+1) nm at_ ns ex (t::r)=if t.k=.cls then .ok ⟨nm,at_,ns,ex⟩ r else .err 2 t.at_:=by
 simp only[fD]
 rw[Zgv (Or.inl rfl)]
 by_cases h:t.k=.cls<;>simp[h,Zgh,Zr2]
theorem undrew {X w7:World}{row:Option Nat}(hg:X.drew.grownBy w7 row):X.grownBy w7 row:=⟨hg.os,hg.tape,hg.output,hg.size,hg.block⟩
theorem Zzo {RES:Res Fn}{G a0 k2 d2 e2 a2 kb:Nat}{nm:List UInt8}{at_:Nat}{ns:List (List UInt8×Nat)}(hR:RES=Zr2 nm at_ ns (Znh G 1 1 (pE (pL G) 1 (Zan l kb)))){P:Ex→Prop}
  (H:(e2=0∧a2=a0∧d2=1∧∃ex,pE (pL G) 1 (Zan l kb)=.ok ex (Zan l k2)∧P ex)∨(e2≠0∧pE (pL G) 1 (Zan l kb)=.err e2 a2)) :
  ∃ex,Inv l a0 RES 1 (fD G nm at_ ns ex) k2 d2 e2 a2∧(e2=0→P ex):=by
 rcases H with ⟨h1,h2,h3,ex,h4,h5⟩ | ⟨h1,h2⟩
 ·refine⟨ex,Or.inr ⟨h1,h3,h2,?_⟩,fun _=>h5⟩
  rw[hR,h4]
  rfl
 ·refine⟨.num [],Or.inl ⟨h1,?_⟩,fun h=>absurd h h1⟩
  rw[hR,h2]
  rfl
theorem ex_after {RES:Res Fn}{G a0 k2 d2 e2 a2 kb:Nat}{nm:List UInt8}{at_:Nat}{ns:List (List UInt8×Nat)}{qs2:List Zaw}{w2:World}{D:Nat→Prop}(hR:RES=Zr2 nm at_ ns (Znh G 1 1 (pE (pL G) 1 (Zan l kb))))
  (H:(e2=0∧a2=a0∧d2=1∧ps <+: qs2∧qs2.length+(l.length-k2)≤ps.length+(l.length-kb)∧kb<k2∧∃ex,pE (pL G) 1 (Zan l kb)=.ok ex (Zan l k2)∧Ze0 w2 D qs2 ps.length ex ps.length)∨(e2≠0∧pE (pL G) 1 (Zan l kb)=.err e2 a2)) :
  ∃ex,Aside (Inv l a0 RES 1 (fD G nm at_ ns ex) k2 d2 e2 a2)∧Aside (e2=0→ps <+: qs2∧qs2.length+(l.length-k2)≤ps.length+(l.length-kb)∧kb<k2∧Ze0 w2 D qs2 ps.length ex ps.length):=by
 have:=Zzo (l:=l) (a0:=a0) (k2:=k2) (d2:=d2) (e2:=e2) (a2:=a2) (P:=fun ex=>ps <+: qs2∧qs2.length+(l.length-k2)≤ps.length+(l.length-kb)∧kb<k2∧Ze0 w2 D qs2 ps.length ex ps.length) hR (by
  rcases H with ⟨h1,h2,h3,h4,h5,h6,ex,h7,h8⟩ | h
  ·exact Or.inl ⟨h1,h2,h3,ex,h7,h4,h5,h6,h8⟩
  ·exact Or.inr h)
 exact this
theorem Zl0 {w5:World}{FB:Nat}{v v':Value}(mv:Zea w5 v v')(h1:∀g,v.ownBlock=some g→g<FB)(h2:FB<w5.heap.size):some FB≠v'.ownBlock:=by
 intro e
 rcases mv.own _ e with g | g
 ·have:=h1 _ g.symm;omega
 ·omega
theorem zt_facts {w5 w6 w9:World}{TB:Nat}{nm:ByteArray}{at_:Nat}{aad:Option Addr}{acp:Nat}{qs:List ByteArray}{lad:Option Addr}{lcp:Nat}{ls:List Nat}{k5 d5 e5 a5 k2 d2 e2 a2 k9 d9 e9 a9:Nat}{pv2:Value}{qs2:List Zaw}{fs:List Ze8}
  (h:GS base rb tb cap l fv pv ps w w.heap.size TB nm at_ w5 aad acp qs lad lcp ls k5 d5 e5 a5) (ht6:Zaa (fun g=>g=rb∨some g=pv.ownBlock) w5 w6) (rp6:Rp w6 base rb tb cap l fv pv2 k2 d2 e2 a2 qs2) (mv6:Zea w5 pv pv2) (fb6:Gx w6 w.heap.size nm at_ (.slice aad qs.length acp) (.slice lad ls.length lcp) 0)
  (ht9:Zaa (·=rb) (w6.setCell ⟨w.heap.size,4,none⟩ (.int .i64 ((ps.length:Nat):Int))) w9) (z9:Rz w9 rb tb cap l fv pv2 k9 d9 e9 a9)
  (hown:w.ownsRow base 208 5 fv fs.length (Zbt fs)) (hfd:∀g,some g=fv.ownBlock→some g≠pv.ownBlock∧g≠rb∧g≠tb) :
  Zaa (fun g=>g=rb∨some g=pv.ownBlock∨some g=fv.ownBlock) w w9∧Rp w9 base rb tb cap l fv pv2 k9 d9 e9 a9 qs2∧Gx w9 w.heap.size nm at_ (.slice aad qs.length acp) (.slice lad ls.length lcp) ps.length∧w9.ownsRow base 208 5 fv fs.length (Zbt fs)∧(∀g,some g=fv.ownBlock→some g≠pv2.ownBlock∧g≠rb∧g≠tb)∧Zea w pv pv2 ∧
  (∀ex,Ze0 w6 (fun g=>w5.heap.size≤g∧some g≠pv2.ownBlock) qs2 ps.length ex ps.length→qs.length=ls.length→Zxc w9 (fun g=>w.heap.size≤g∧some g≠pv2.ownBlock) qs2 ⟨nm.data.toList,at_,Zb5 (qs.zip ls),ex⟩ ⟨nm,at_,.slice aad qs.length acp,.slice lad ls.length lcp,ps.length⟩):=by
 have hw:=h.hw
 have s5:=h.ht.size
 have s6:=ht6.size
 have s9:=ht9.size
 have ltF:=Zag fb6.blk
 have ltF5:=Zag h.fb.blk
 have sz:(w6.setCell ⟨w.heap.size,4,none⟩ (.int .i64 ((ps.length:Nat):Int))).heap.size=w6.heap.size:=by simp[World.setCell]
 rw[sz] at s9
 have far:∀g,g≠w.heap.size→g≠rb→g<w6.heap.size→w9.heap[g]?=w6.heap[g]?:=fun g h1 h2 h3=>by
  rw[ht9.block g (by rw[sz];exact h3) h2,Below.heap_setCell _ ⟨w.heap.size,4,none⟩ _ g h1]
 have nF:=Zl0 mv6 hw.2.2 ltF5
 have rp6b:=rp6.other (B:=w.heap.size) (by omega) (by omega) nF 4 (.int .i64 ((ps.length:Nat):Int))
 have mv:Zea w pv pv2:=Zea.trans (w:=w) (a:=pv) (Or.inl rfl) mv6 s5
 refine⟨?_,rp6b.touch ht9 z9,⟨?_⟩,?_,?_,mv,?_⟩
 ·have t1:Zaa (fun g=>g=rb∨some g=pv.ownBlock∨some g=fv.ownBlock) w w5:=h.ht.mono fun g hg=>Or.inl hg
  have t2:=Zcy t1 ht6 (fun g hg=>by
   rcases hg with e | e
   ·exact Or.inl (Or.inl e)
   ·exact Or.inl (Or.inr (Or.inl e)))
  exact (t2.setCell (p:=⟨w.heap.size,4,none⟩) (Or.inr (Nat.le_refl _)) _).trans (ht9.mono fun g hg=>Or.inl hg)
 ·rw[ht9.block w.heap.size (by rw[sz];exact ltF) (by show ¬ w.heap.size=rb;omega),Zau fb6.blk]
  rfl
 ·refine Zay hown fun g hg=>?_
  have hl:=(hown.lt g hg).2
  have hq:=hfd g hg.symm
  rw[far g (by omega) hq.2.1 (by omega),ht6.block g (by omega) (by rintro (e | e);exact hq.2.1 e;exact hq.1 e),h.ht.block g hl hq.2.1]
 ·intro g hg
  refine⟨fun e=>?_,(hfd g hg).2⟩
  rcases mv6.own g e with e2 | e2
  ·exact (hfd g hg).1 e2
  ·have:=(hown.lt g hg.symm).2;omega
 ·intro ex hx hql
  have rows:=h.rows (X:=w9) (pv':=pv2) (fun g h1 h2 h3=>by
   rw[far g h3 (by omega) (by omega)]
   exact ht6.block g h2 (by rintro (e | e);omega;have:=hw.2.2 g e.symm;omega)) mv6
  refine⟨rfl,rfl,⟨qs,ls,hql,rfl,rows.1,rows.2⟩,?_⟩
  refine Ze0.map (lo:=ps.length) (fun i q _ hq=>hq) (Nat.zero_le _) (fun sl n vs hr=>?_) hx
  exact (hr.keep (w':=w9) fun g hg hlt=>far g (by omega) (by omega) hlt).weaken fun g hg=>⟨by omega,hg.1.2⟩
theorem Zxc.drew {X:World}{D:Nat→Prop}{fn:Fn}{f:Ze8}(h:Zxc X D ps fn f):Zxc X.drew D ps fn f:=by
 obtain⟨q1,q2,⟨qs,ls,q3,q4,q5,q6⟩,q7⟩:=h
 exact⟨q1,q2,⟨qs,ls,q3,q4,q5,q6⟩,Ze0.map (w:=X) (w':=X.drew) (fun _ _ _ h=>h) (Nat.le_refl _) (fun _ _ _ h=>h) q7⟩
end
end Go.Proofs.YtliapghpeoaonaaGreatDoor
