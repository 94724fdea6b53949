/-
  What is written is read as it was. Plain.
-/
import Derived.Test.YtifhgjpglicjbaaGreatDoorRdA
set_option maxHeartbeats 4000000
namespace Go.Proofs.YtifhgjpglicjbaaGreatDoor
open Go.Proofs.Tryz
open Go.Lib
theorem digitsVal_snoc (l:List UInt8)(c:UInt8):digitsVal (l++[c])=10*digitsVal l+((c.toNat:Int)-48):=by
 unfold digitsVal
 rw[List.foldl_append]
 rfl
theorem dig_byte (d:Nat)(h:d<10):(UInt8.ofNat (48+d)).toNat=48+d:=by
 rw[UInt8.toNat_ofNat']
 omega
theorem dec_val (u:Nat):digitsVal (decDigits u)=(u:Int):=by
 induction u using Nat.strongRecOn with
 | _ u ih =>
  rw[decDigits]
  split
  ·rename_i h
   show 10*0+_=_
   rw[dig_byte u h]
   omega
  ·rename_i h
   rw[digitsVal_snoc,ih (u / 10) (by omega),dig_byte _ (by omega)]
   omega
theorem dec_digit (u:Nat):∀c∈decDigits u,digit c=true:=by
 induction u using Nat.strongRecOn with
 | _ u ih =>
  intro c hc
  rw[decDigits] at hc
  have one:∀d,d<10→digit (UInt8.ofNat (48+d))=true:=fun d hd=>by
   have:=dig_byte d hd
   unfold digit
   simp only[Bool.and_eq_true,decide_eq_true_eq,UInt8.le_iff_toNat_le]
   rw[this]
   exact⟨by show 48≤_;omega,by show _≤57;omega⟩
  split at hc
  ·rename_i h
   rw[List.mem_singleton] at hc
   subst hc
   exact one u h
  ·rename_i h
   rw[List.mem_append] at hc
   rcases hc with hc | hc
   ·exact ih _ (by omega) c hc
   ·rw[List.mem_singleton] at hc
    subst hc
    exact one _ (by omega)
theorem dec_ne (u:Nat):decDigits u≠[]:=by
 rw[decDigits]
 split<;>simp
def noDig (r:List UInt8):Prop:=∀c,r[0]?=some c→digit c=false
theorem noDig_nil:noDig []:=fun c h=>by simp at h
theorem noDig_cons {c:UInt8}{r:List UInt8}(h:digit c=false):noDig (c::r):=fun d hd=>by simp at hd;rw[←hd];exact h
theorem run_dec (u:Nat){r:List UInt8}(h:noDig r):runL digit (decDigits u++r)=(decDigits u).length:=by
 unfold runL
 rw[List.takeWhile_append_of_pos (dec_digit u)]
 have:r.takeWhile digit=[]:=by
  cases r with
  | nil=>rfl
  | cons c r=>rw[List.takeWhile_cons,h c rfl];rfl
 rw[this,List.append_nil]
theorem dec_head (u:Nat)(r:List UInt8)(c:UInt8)(hc:digit c=false):startsB c (decDigits u++r)=false:=by
 have h1:=dec_ne u
 have h2:=dec_digit u
 generalize decDigits u=l at *
 cases l with
 | nil=>exact absurd rfl h1
 | cons a l =>
  have:=h2 a (by simp)
  unfold startsB
  simp only[List.cons_append,List.getElem?_cons_zero]
  cases e:(some a==some c) with
  | false=>rfl
  | true =>
   have e:=eq_of_beq e
   cases e
   rw[this] at hc
   cases hc
theorem numLen_itoa (z:Int){r:List UInt8}(h:noDig r):numLen (itoa z++r)=(itoa z).length:=by
 unfold numLen itoa
 split
 ·have e:unsignL ((45::decDigits z.natAbs)++r)=decDigits z.natAbs++r:=rfl
  rw[e,run_dec _ h]
  simp
  omega
 ·have e:unsignL (decDigits z.toNat++r)=decDigits z.toNat++r:=by
   unfold unsignL
   rw[dec_head _ _ 45 rfl]
   rfl
  rw[e,run_dec _ h]
  omega
theorem numVal_itoa (z:Int):numVal (itoa z)=z:=by
 unfold numVal itoa
 split
 ·show-digitsVal (decDigits z.natAbs)=z
  rw[dec_val]
  omega
 ·have:=dec_head z.toNat [] 45 rfl
  rw[List.append_nil] at this
  rw[this]
  show digitsVal _=z
  rw[dec_val]
  omega
theorem numOf_itoa (z:Int)(h:In64 z):numOf (itoa z)=some z:=by
 unfold numOf
 rw[numVal_itoa,if_pos ⟨rfl,h⟩]
theorem itoa_head (z:Int)(r:List UInt8)(c:UInt8)(hc:digit c=false)(h45:c≠45):startsB c (itoa z++r)=false:=by
 unfold itoa
 split
 ·unfold startsB
  simp only[List.cons_append,List.getElem?_cons_zero]
  cases e:((some 45:Option UInt8)==some c) with
  | false=>rfl
  | true =>
   have e:=eq_of_beq e
   cases e
   exact absurd rfl h45
 ·exact dec_head _ _ _ hc
mutual
def quotV:PV→Prop
 | .num _=>True
 | .txt b=>∀c∈b,quot c=true
 | .lst l=>quotVs l
def quotVs:List PV→Prop
 | []=>True
 | v::r=>quotV v∧quotVs r
end
theorem run_quot {b:List UInt8}(h:∀c∈b,quot c=true)(r:List UInt8):runL quot (b++39::r)=b.length:=by
 unfold runL
 rw[List.takeWhile_append_of_pos h]
 have:(39::r).takeWhile quot=[]:=by rw[List.takeWhile_cons];rfl
 rw[this,List.append_nil]
theorem wrV_head:∀(v:PV) (r:List UInt8) (c:UInt8),c=41∨c=32→startsB c (wrV v++r)=false
 | .num z,r,c,h=>by
  rw[wrV]
  exact itoa_head z r c (by rcases h with rfl | rfl<;>rfl) (by rcases h with rfl | rfl<;>decide)
 | .txt b,r,c,h=>by rw[wrV];rcases h with rfl | rfl<;>rfl
 | .lst l,r,c,h=>by rw[wrV];rcases h with rfl | rfl<;>rfl
theorem wrT_noDig (vs:List PV)(r:List UInt8):noDig (wrT vs++41::r):=by
 cases vs with
 | nil=>rw[wrT];exact noDig_cons rfl
 | cons v vs=>rw[wrT];exact noDig_cons rfl
mutual
theorem rdVx_wr:∀(v:PV),okV v→quotV v→∀r,noDig r→rdVx (wrV v++r)=some (v,r)
 | .num z,ho,_,r,hr=>by
  rw[okV] at ho
  rw[wrV,rdVx_num (itoa_head z r 40 rfl (by decide)) (itoa_head z r 39 rfl (by decide)),numLen_itoa z hr,List.take_left,List.drop_left,numOf_itoa z ho]
  rfl
 | .txt b,_,hq,r,_=>by
  rw[quotV] at hq
  have e:wrV (.txt b)++r=39::(b++39::r):=by rw[wrV];simp
  rw[e,rdVx_text rfl rfl]
  simp only[List.drop_one,List.tail_cons,run_quot hq r,List.drop_left,List.take_left]
  rfl
 | .lst l,ho,hq,r,_=>by
  rw[okV] at ho
  rw[quotV] at hq
  have e:wrV (.lst l)++r=40::(wrVs l++41::r):=by rw[wrV];simp
  rw[e,rdVx_list rfl]
  show lstR (rdLx true (wrVs l++41::r))=_
  rw[rdLx_wr l ho hq r]
  rfl
theorem rdLx_wr:∀(l:List PV),okVs l→quotVs l→∀r,rdLx true (wrVs l++41::r)=some (l,r)
 | [],_,_,r=>by rw[wrVs];exact rdLx_close rfl
 | v::vs,ho,hq,r=>by
  rw[okVs] at ho
  rw[quotVs] at hq
  rw[wrVs,List.append_assoc,rdLx_more (b:=true) (v:=v) (r:=wrT vs++41::r) (wrV_head v _ 41 (Or.inl rfl)) (fun h=>by cases h) (rdVx_wr v ho.1 hq.1 _ (wrT_noDig vs r)),rdTx_wr vs ho.2 hq.2 r]
  rfl
theorem rdTx_wr:∀(l:List PV),okVs l→quotVs l→∀r,rdLx false (wrT l++41::r)=some (l,r)
 | [],_,_,r=>by rw[wrT];exact rdLx_close rfl
 | v::vs,ho,hq,r=>by
  rw[okVs] at ho
  rw[quotVs] at hq
  have e:wrT (v::vs)++41::r=32::(wrV v++(wrT vs++41::r)):=by rw[wrT];simp
  rw[e,rdLx_more (v:=v) (r:=wrT vs++41::r) rfl (fun _=>rfl) (by show rdVx (wrV v++(wrT vs++41::r))=_;exact rdVx_wr v ho.1 hq.1 _ (wrT_noDig vs r)),rdTx_wr vs ho.2 hq.2 r]
  rfl
end
theorem readV_wr {v:PV}(ho:okV v)(hq:quotV v)(hw:wtV v≤600):readV (wrV v)=some v:=by
 rw[readV_eq]
 have:=rdVx_wr v ho hq [] noDig_nil
 rw[List.append_nil] at this
 rw[this]
 simp[hw]
end Go.Proofs.YtifhgjpglicjbaaGreatDoor
namespace Go.Proofs.YtifhgjpglicjbaaGreatDoor
open Go.Proofs.Tryz
open Go.RowKit Go.Lib
attribute [local go_sem ↓] Go.wp_at_zero Go.wp_at_succ
def pickA (c:Int)(n:Nat):Nat:=if c<0 then (-(c+1)).toNat % n else c.toNat % n
theorem pickA_lt {c:Int}{n:Nat}(h:0<n):pickA c n<n:=by unfold pickA;split<;>exact Nat.mod_lt _ h
theorem pick_any (c:Int)(n:Nat)(w:World)(hc:In64 c)(hn:0<n)(hn2:n≤1000000000):
  Calls prog 10 #[.int .i64 c,.int .i64 ((n:Nat):Int)] w fun e w'=>e=.returned (.int .i64 ((pickA c n:Nat):Int))∧w'=w:=by
 obtain⟨R,hR⟩:∃R,R=((pickA c n:Nat):Int):=⟨_,rfl⟩
 rw[←hR]
 unfold In64 at hc
 obtain⟨hc1,hc2⟩:=hc
 have hn0:(0:Int)<(n:Int):=by omega
 have hni:(n:Int)≤1000000000:=by omega
 have hne:((n:Nat):Int)≠0:=by omega
 by_cases h:c<0
 ·have HR:Hid (R=-(c+1).tmod (n:Int)):=by
   show R=_
   rw[hR,pickA,if_pos h,←Int.neg_tmod,Int.tmod_eq_emod_of_nonneg (by omega),Int.natCast_emod,Int.toNat_of_nonneg (by omega)]
  have h0:0≤-(c+1):=by omega
  clear hR
  go_enter func10,ntmps10
  go_wp2
  go_ret
  exact⟨by rw[HR.out];rfl,rfl⟩
 ·have HR:Hid (R=c % (n:Int)):=by
   show R=_
   rw[hR,pickA,if_neg h,Int.natCast_emod,Int.toNat_of_nonneg (by omega)]
  have h0:0≤c:=by omega
  clear hR
  go_enter func10,ntmps10
  go_wp2
  go_ret
  exact⟨by rw[HR.out];rfl,rfl⟩
theorem digit_cut (d:Nat)(h:d<10):(⟨#[48,49,50,51,52,53,54,55,56,57]⟩:ByteArray).extract d (d+1)=⟨#[UInt8.ofNat (48+d)]⟩:=by
 match d,h with
 | 0,_=>rfl
 | 1,_=>rfl
 | 2,_=>rfl
 | 3,_=>rfl
 | 4,_=>rfl
 | 5,_=>rfl
 | 6,_=>rfl
 | 7,_=>rfl
 | 8,_=>rfl
 | 9,_=>rfl
theorem digit_put (d:Nat)(h:d<10)(bs:List UInt8):(⟨#[48,49,50,51,52,53,54,55,56,57]⟩:ByteArray).extract d (d+1)++⟨bs.toArray⟩=⟨(UInt8.ofNat (48+d)::bs).toArray⟩:=by
 rw[digit_cut d h]
 apply ByteArray.ext
 simp
theorem dec_len (u:Nat)(h:u≤9223372036854775808):(decDigits u).length≤20:=by
 have:=itoa_length_le (-(u:Int)) (by omega) (by omega)
 by_cases h0:u=0
 ·subst h0;decide +kernel
 ·rw[itoa_neg u (by omega)] at this
  simp at this
  exact this
structure NumS (N u:Nat)(bs:List UInt8):Prop where
 eq:decDigits N=decDigits u++bs
 le:u≤N
theorem NumS.len {N u:Nat}{bs:List UInt8}(h:NumS N u bs)(hN:N≤9223372036854775808):bs.length≤20:=by
 have:=dec_len N hN
 rw[h.eq] at this
 simp at this
 omega
theorem NumS.last {N u:Nat}{bs:List UInt8}(h:NumS N u bs)(hu:u<10):decDigits N=UInt8.ofNat (48+u % 10)::bs:=by
 rw[h.eq,decDigits_one hu,Nat.mod_eq_of_lt hu]
 rfl
theorem NumS.next {N u:Nat}{bs:List UInt8}(h:NumS N u bs)(hu:¬ u<10):NumS N (u / 10) (UInt8.ofNat (48+u % 10)::bs):=by
 refine⟨?_,by have:=h.le;omega⟩
 rw[h.eq]
 conv=>lhs;rw[decDigits,dif_neg hu]
 simp
theorem number_pos (N:Nat)(w:World)(hN:N≤9223372036854775807):
  Calls prog 9 #[.int .i64 (N:Int)] w fun e w'=>e=.returned (.string ⟨(decDigits N).toArray⟩)∧w'=w:=by
 have S0:Hid (NumS N N []):=⟨by simp,Nat.le_refl _⟩
 obtain⟨R,hR⟩:∃R,R=decDigits N:=⟨_,rfl⟩
 rw[←hR]
 have HR:Hid (R=decDigits N):=hR
 have hNi:(N:Int)≤9223372036854775807:=by omega
 clear hR
 go_enter func9,ntmps9
 go_wp2
 go_loop [3,4] (fun s k=>∃(u:Nat) (bs:List UInt8),s=.string ⟨bs.toArray⟩∧k=.int .i64 (u:Int)∧Aside (NumS N u bs)) (fun _ k=>(RowKit.intOf k).natAbs)
 case atStart=>exact⟨N,[],rfl,rfl,(show NumS N N [] from S0.out)⟩
 case round =>
  obtain⟨u,bs,rfl,rfl,hA⟩:=hrel
  have hle:=hA.out.le
  have hlen:=hA.out.len (by omega)
  obtain⟨d,hd⟩:∃d,d=u % 10:=⟨_,rfl⟩
  obtain⟨q,hq⟩:∃q,q=u / 10:=⟨_,rfl⟩
  have hdi:(u:Int) % 10=(d:Int):=by omega
  have hqi:(u:Int) / 10=(q:Int):=by omega
  have hd10:d<10:=by omega
  have hu9:(u:Int)≤9223372036854775807:=by omega
  have PUT:Hid (∀bs:List UInt8,(⟨#[48,49,50,51,52,53,54,55,56,57]⟩:ByteArray).extract d (d+1)++⟨bs.toArray⟩=⟨(UInt8.ofNat (48+d)::bs).toArray⟩):=digit_put d hd10
  have hd9:(d:Int)<10:=by omega
  by_cases hlt:u<10
  ·have L:Hid (R=UInt8.ofNat (48+d)::bs):=by rw[HR.out,hd];exact hA.out.last hlt
   have q0:q=0:=by omega
   subst q0
   clear hA HR hd hq S0
   go_wp2
   go_ret
   exact⟨by rw[L.out,←PUT.out];rfl,rfl⟩
  ·have NX:Hid (NumS N q (UInt8.ofNat (48+d)::bs)):=by rw[hd,hq];exact hA.out.next hlt
   have q0:(q:Int)≠0:=by omega
   have hqu:q<u:=by omega
   clear hA hd hq S0 HR
   go_wp2
   go_round
   case rel=>exact⟨q,_,by rw[PUT.out bs],rfl,(show NumS N q _ from NX.out)⟩
   case measure=>simp[RowKit.intOf];omega
theorem cons_put (c:UInt8)(bs:List UInt8):(⟨(c::bs).toArray⟩:ByteArray)=⟨#[c]⟩++⟨bs.toArray⟩:=by
 apply ByteArray.ext
 simp
theorem number_neg (N:Nat)(w:World)(hN1:1≤N)(hN:N≤9223372036854775808):
  Calls prog 9 #[.int .i64 (-(N:Int))] w fun e w'=>e=.returned (.string ⟨(45::decDigits N).toArray⟩)∧w'=w:=by
 have S0:Hid (NumS N N []):=⟨by simp,Nat.le_refl _⟩
 obtain⟨R,hR⟩:∃R,R=decDigits N:=⟨_,rfl⟩
 rw[←hR]
 have HR:Hid (R=decDigits N):=hR
 have hNi:(N:Int)≤9223372036854775808:=by omega
 have hNp:(1:Int)≤(N:Int):=by omega
 have hneg:-(N:Int)<0:=by omega
 clear hR
 go_enter func9,ntmps9
 go_wp2
 go_loop [3,4] (fun s k=>∃(u:Nat) (bs:List UInt8),s=.string ⟨bs.toArray⟩∧k=.int .i64 (-(u:Int))∧Aside (NumS N u bs)) (fun _ k=>(RowKit.intOf k).natAbs)
 case atStart=>exact⟨N,[],rfl,rfl,(show NumS N N [] from S0.out)⟩
 case round =>
  obtain⟨u,bs,rfl,rfl,hA⟩:=hrel
  have hle:=hA.out.le
  have hlen:=hA.out.len (by omega)
  obtain⟨d,hd⟩:∃d,d=u % 10:=⟨_,rfl⟩
  obtain⟨q,hq⟩:∃q,q=u / 10:=⟨_,rfl⟩
  have hdi:(u:Int).tmod 10=(d:Int):=by rw[Int.tmod_eq_emod_of_nonneg (by omega)];omega
  have hqi:(u:Int).tdiv 10=(q:Int):=by rw[Int.tdiv_eq_ediv_of_nonneg (by omega)];omega
  have hd10:d<10:=by omega
  have hu9:(u:Int)≤9223372036854775808:=by omega
  have PUT:Hid (∀bs:List UInt8,(⟨#[48,49,50,51,52,53,54,55,56,57]⟩:ByteArray).extract d (d+1)++⟨bs.toArray⟩=⟨(UInt8.ofNat (48+d)::bs).toArray⟩):=digit_put d hd10
  have hd9:(d:Int)<10:=by omega
  by_cases hd0:d=0
  ·have hdi0:(u:Int).tmod 10=0:=by rw[hdi,hd0];rfl
   have D0:Hid (d=0):=hd0
   have PUT:Hid (∀bs:List UInt8,(⟨#[48,49,50,51,52,53,54,55,56,57]⟩:ByteArray).extract 0 1++⟨bs.toArray⟩=⟨(UInt8.ofNat (48+d)::bs).toArray⟩):=by
    have:=PUT.out
    rw[hd0] at this ⊢
    exact this
   clear hdi hd0
   by_cases hlt:u<10
   ·have L:Hid (R=UInt8.ofNat (48+d)::bs):=by rw[HR.out,hd];exact hA.out.last hlt
    have q0:q=0:=by omega
    subst q0
    clear hA HR hd hq S0
    go_wp2
    go_ret
    exact⟨by rw[L.out,cons_put 45 (UInt8.ofNat (48+d)::bs),←PUT.out];rfl,rfl⟩
   ·have NX:Hid (NumS N q (UInt8.ofNat (48+d)::bs)):=by rw[hd,hq];exact hA.out.next hlt
    have q0:(q:Int)≠0:=by omega
    have hqu:q<u:=by omega
    clear hA hd hq S0 HR
    go_wp2
    go_round
    case rel=>exact⟨q,_,by rw[PUT.out bs],rfl,(show NumS N q _ from NX.out)⟩
    case measure=>simp[RowKit.intOf];omega
  ·have hdp:0<(d:Int):=by omega
   have hdn:-(d:Int)<0:=by omega
   clear hd0
   by_cases hlt:u<10
   ·have L:Hid (R=UInt8.ofNat (48+d)::bs):=by rw[HR.out,hd];exact hA.out.last hlt
    have q0:q=0:=by omega
    subst q0
    clear hA HR hd hq S0
    go_wp2
    go_ret
    exact⟨by rw[L.out,cons_put 45 (UInt8.ofNat (48+d)::bs),←PUT.out];rfl,rfl⟩
   ·have NX:Hid (NumS N q (UInt8.ofNat (48+d)::bs)):=by rw[hd,hq];exact hA.out.next hlt
    have q0:(q:Int)≠0:=by omega
    have hqu:q<u:=by omega
    clear hA hd hq S0 HR
    go_wp2
    go_round
    case rel=>exact⟨q,_,by rw[PUT.out bs],rfl,(show NumS N q _ from NX.out)⟩
    case measure=>simp[RowKit.intOf];omega
theorem number_any (n:Int)(w:World)(hn:In64 n):
  Calls prog 9 #[.int .i64 n] w fun e w'=>e=.returned (.string ⟨(itoa n).toArray⟩)∧w'=w:=by
 unfold In64 at hn
 by_cases h:n<0
 ·obtain⟨N,rfl⟩:∃N:Nat,n=-(N:Int):=⟨n.natAbs,by omega⟩
  rw[itoa_neg N (by omega)]
  exact number_neg N w (by omega) (by omega)
 ·obtain⟨N,rfl⟩:∃N:Nat,n=(N:Int):=⟨n.natAbs,by omega⟩
  rw[itoa_nonneg N]
  exact number_pos N w (by omega)
end Go.Proofs.YtifhgjpglicjbaaGreatDoor
namespace Go.Proofs.YtifhgjpglicjbaaGreatDoor
open Go.Proofs.Tryz
open Go.Lib
def sixA:Nat→List UInt8
 | 0=>[]
 | 1=>[97]
 | 2=>[97,32,98]
 | 3=>[40,41]
 | 4=>[126,33,34]
 | _=>[49,50]
def kidsS (S:List Int→PV×Nat)(raw:List Int):Nat→Nat→List PV×Nat
 | 0,used=>([],used)
 | n+1,used=>((S (raw.drop used)).1::(kidsS S raw n (used+(S (raw.drop used)).2)).1,(kidsS S raw n (used+(S (raw.drop used)).2)).2)
def leafS (a:Int):PV×Nat:=if pickA a 6<2 then (.num (a.tdiv 6),1) else (.txt (sixA (pickA (a.tdiv 6) 6)),1)
def shapeA:Nat→List Int→PV×Nat
 | _,[]=>(.num 0,0)
 | 0,a::_=>(.num (a.tdiv 6),1)
 | d+1,a::r=>if pickA a 6<4 then leafS a else (.lst (kidsS (shapeA d) (a::r) (pickA (a.tdiv 6) 4) 1).1,(kidsS (shapeA d) (a::r) (pickA (a.tdiv 6) 4) 1).2)
structure GoodSh (v:PV)(u n:Nat):Prop where
 le:u≤n
 wt:wtV v≤7*u+1
 ok:okV v
 qt:quotV v
theorem tdiv6 {a:Int}(h:In64 a):In64 (a.tdiv 6):=by
 unfold In64 at *
 rcases Int.le_total 0 a with h0 | h0
 ·rw[Int.tdiv_eq_ediv_of_nonneg h0];omega
 ·have:a.tdiv 6=-((-a) / 6):=by
   have e:a=-(-a):=by omega
   conv=>lhs;rw[e]
   rw[Int.neg_tdiv,Int.tdiv_eq_ediv_of_nonneg (by omega)]
  rw[this]
  omega
theorem six_good:∀k,(sixA k).length≤3∧∀c∈sixA k,quot c=true
 | 0=>by simp[sixA]
 | 1=>by decide
 | 2=>by decide
 | 3=>by decide
 | 4=>by decide
 | k+5=>by simp only[sixA];decide
theorem leaf_good {a:Int}(h:In64 a)(n:Nat):GoodSh (leafS a).1 (leafS a).2 (n+1):=by
 unfold leafS
 split
 ·exact⟨by simp,by simp[wtV],by rw[okV];exact tdiv6 h,by rw[quotV];trivial⟩
 ·have:=six_good (pickA (a.tdiv 6) 6)
  refine⟨by simp,by show wtV (.txt _)≤_;rw[wtV];have:=this.1;simp;omega,by rw[okV];trivial,by rw[quotV];exact this.2⟩
theorem kids_good {S:List Int→PV×Nat}{raw:List Int}(hS:∀l,(∀x∈l,x∈raw)→GoodSh (S l).1 (S l).2 l.length):∀(n used:Nat),used≤raw.length→(kidsS S raw n used).2≤raw.length∧used≤(kidsS S raw n used).2∧wtVs (kidsS S raw n used).1+7*used≤7*(kidsS S raw n used).2+n∧okVs (kidsS S raw n used).1∧quotVs (kidsS S raw n used).1
 | 0,used,h=>by
  simp only[kidsS,wtVs,okVs,quotVs]
  exact⟨h,Nat.le_refl _,by omega,trivial,trivial⟩
 | n+1,used,h=>by
  have h1:=hS (raw.drop used) fun x hx=>List.mem_of_mem_drop hx
  have hl:=h1.le
  rw[List.length_drop] at hl
  have h2:=kids_good hS n (used+(S (raw.drop used)).2) (by omega)
  simp only[kidsS,wtVs,okVs,quotVs]
  have:=h1.wt
  exact⟨h2.1,by omega,by omega,⟨h1.ok,h2.2.2.2.1⟩,h1.qt,h2.2.2.2.2⟩
theorem shape_good:∀(d:Nat) (raw:List Int),(∀x∈raw,In64 x)→GoodSh (shapeA d raw).1 (shapeA d raw).2 raw.length
 | d,[],_=>by
  have:shapeA d []=(.num 0,0):=by cases d<;>rfl
  rw[this]
  exact⟨by simp,by simp[wtV],by rw[okV];unfold In64;omega,by rw[quotV];trivial⟩
 | 0,a::r,h=>by
  rw[shapeA]
  exact⟨by simp,by simp[wtV],by rw[okV];exact tdiv6 (h a (by simp)),by rw[quotV];trivial⟩
 | d+1,a::r,h=>by
  rw[shapeA]
  split
  ·exact leaf_good (h a (by simp)) r.length
  ·have hk:pickA (a.tdiv 6) 4<4:=pickA_lt (by omega)
   have:=kids_good (S:=shapeA d) (raw:=a::r) (fun l hl=>shape_good d l fun x hx=>h x (hl x hx)) (pickA (a.tdiv 6) 4) 1 (by simp)
   refine⟨this.1,?_,?_,?_⟩
   ·show wtV (.lst _)≤_
    rw[wtV]
    show _≤7*(kidsS (shapeA d) (a::r) (pickA (a.tdiv 6) 4) 1).2+1
    omega
   ·show okV (.lst _)
    rw[okV];exact this.2.2.2.1
   ·show quotV (.lst _)
    rw[quotV];exact this.2.2.2.2
mutual
theorem sameV_eq:∀(a b:PV),sameV a b=true→a=b
 | .num x,.num y,h=>by rw[sameV] at h;rw[eq_of_beq h]
 | .num _,.txt _,h=>by simp[sameV] at h
 | .num _,.lst _,h=>by simp[sameV] at h
 | .txt x,.txt y,h=>by rw[sameV] at h;rw[eq_of_beq h]
 | .txt _,.num _,h=>by simp[sameV] at h
 | .txt _,.lst _,h=>by simp[sameV] at h
 | .lst x,.lst y,h=>by rw[sameV] at h;rw[sameVs_eq x y h]
 | .lst _,.num _,h=>by simp[sameV] at h
 | .lst _,.txt _,h=>by simp[sameV] at h
theorem sameVs_eq:∀(a b:List PV),sameVs a b=true→a=b
 | [],[],_=>rfl
 | [],_::_,h=>by simp[sameVs] at h
 | _::_,[],h=>by simp[sameVs] at h
 | a::r,b::s,h=>by
  rw[sameVs,Bool.and_eq_true] at h
  rw[sameV_eq a b h.1,sameVs_eq r s h.2]
end
mutual
theorem sameV_refl:∀(a:PV),sameV a a=true
 | .num x=>by simp[sameV]
 | .txt x=>by simp[sameV]
 | .lst x=>by rw[sameV];exact sameVs_refl x
theorem sameVs_refl:∀(a:List PV),sameVs a a=true
 | []=>by simp[sameVs]
 | a::r=>by rw[sameVs,sameV_refl a,sameVs_refl r];rfl
end
theorem readV_more {v:PV}(ho:okV v)(hq:quotV v){c:UInt8}(hc:digit c=false):readV (wrV v++[c])=none:=by
 rw[readV_eq,rdVx_wr v ho hq [c] (noDig_cons hc)]
 simp
theorem readV_open {v:PV}(ho:okV v)(hq:quotV v):readV (40::wrV v)=none:=by
 have h1:=rdVx_wr v ho hq [] noDig_nil
 have h2:=wrV_head v [] 41 (Or.inl rfl)
 rw[List.append_nil] at h1 h2
 have h3:rdLx true (wrV v)=none:=by
  rw[rdLx_more (b:=true) (v:=v) (r:=[]) h2 (fun h=>by cases h) h1,rdLx_none (l:=[]) rfl rfl]
  rfl
 rw[readV_eq,rdVx_list (l:=40::wrV v) rfl]
 show (match lstR (rdLx true (wrV v)) with | some (v,r)=>_ | none=>_)=_
 rw[h3]
 rfl
theorem readV_blank (v:PV):readV (32::wrV v)=none:=by
 cases h:readV (32::wrV v) with
 | none=>rfl
 | some u =>
  have:=(readV_some h).1
  have h2:=wrV_head u [] 32 (Or.inr rfl)
  rw[List.append_nil,←this] at h2
  cases h2
end Go.Proofs.YtifhgjpglicjbaaGreatDoor
