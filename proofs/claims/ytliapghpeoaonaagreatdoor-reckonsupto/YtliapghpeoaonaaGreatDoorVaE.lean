/-
  The program: reading a value: weigh, take, run.
-/
import Derived.Test.YtliapghpeoaonaaGreatDoorTokA
import Derived.Test.YtliapghpeoaonaaGreatDoorRvA
import Derived.Test.YtliapghpeoaonaaGreatDoorVal
import Derived.Lib.ParseIntB
import Derived.Test.YtliapghpeoaonaaGreatDoorRnm
import Derived.Test.YtliapghpeoaonaaGreatDoorExpr
import Derived.Lib.AtoiErrMem
import Derived.Test.YtliapghpeoaonaaGreatDoorCln
set_option maxHeartbeats 4000000
set_option maxRecDepth 8000
namespace Go.Proofs.YtliapghpeoaonaaGreatDoor
open Go.Proofs.Tryz
open Go.RowKit
attribute [local go_sem ↓] Go.wp_at_zero Go.wp_at_succ
structure RdB (w:World)(rb:Nat)(s:ByteArray)(p k:Nat):Prop where
 blk:w.heap[rb]?=some (.cells #[.string s,.int .i64 ((p:Nat):Int),.int .i64 ((k:Nat):Int)] 237)
 hp:p≤s.size
 hs:s.size≤1000000000000
 hk:k≤2000000000000
theorem RdB.cells {w:World}{rb:Nat}{s:ByteArray}{p k:Nat}(h:RdB w rb s p k):w.cell? ⟨rb,0,none⟩=some (.string s)∧w.cell? ⟨rb,1,none⟩=some (.int .i64 ((p:Nat):Int))∧w.cell? ⟨rb,2,none⟩=some (.int .i64 ((k:Nat):Int))∧(∀j,w.frozen? ⟨rb,j,none⟩=false)∧rb<w.heap.size:=by
 have hb:=h.blk
 refine⟨?_,?_,?_,fun j=>?_,Zag hb⟩
 ·unfold World.cell?;rw[hb];rfl
 ·unfold World.cell?;rw[hb];rfl
 ·unfold World.cell?;rw[hb];rfl
 ·unfold World.frozen?;rw[hb];rfl
theorem RdB.same {w w':World}{rb:Nat}{s:ByteArray}{p k:Nat}(h:RdB w rb s p k)(e:w'.heap[rb]?=w.heap[rb]?):RdB w' rb s p k:=⟨by rw[e];exact h.blk,h.hp,h.hs,h.hk⟩
theorem RdB.below {w w':World}{rb:Nat}{s:ByteArray}{p k:Nat}(h:RdB w rb s p k)(hb:Below w.heap.size w w'):RdB w' rb s p k:=h.same (hb.block rb (Zag h.blk))
theorem RdB.move {w:World}{rb:Nat}{s:ByteArray}{p k:Nat}(h:RdB w rb s p k)(p':Nat)(hp:p'≤s.size):RdB (w.setCell ⟨rb,1,none⟩ (.int .i64 ((p':Nat):Int))) rb s p' k:=⟨by rw[Zau h.blk];simp,hp,h.hs,h.hk⟩
theorem RdB.heavy {w:World}{rb:Nat}{s:ByteArray}{p k:Nat}(h:RdB w rb s p k)(k':Nat)(hk:k'≤2000000000000):RdB (w.setCell ⟨rb,2,none⟩ (.int .i64 ((k':Nat):Int))) rb s p k':=⟨by rw[Zau h.blk];simp,h.hp,h.hs,hk⟩
theorem RdB.drewN {w:World}{rb:Nat}{s:ByteArray}{p k:Nat}(h:RdB w rb s p k)(n:Nat):RdB (w.drewN n) rb s p k:=h.same rfl
def whyV (x:Value):Prop:=∃b:ByteArray,x=.iface 146 (.string b)
theorem Zwb {w:World}{rb:Nat}{s:ByteArray}{p k:Nat}(h:RdB w rb s p k)(m:Nat)(hm:k+m≤2000000000000):
  Calls prog 162 #[.pointer (some ⟨rb,0,none⟩),.int .i64 ((m:Nat):Int)] w fun e w'=>Zaa (·=rb) w w'∧RdB w' rb s p (k+m)∧((k+m≤600∧e=.returned .nilIface)∨(600<k+m∧∃x,whyV x∧e=.returned x)):=by
 obtain⟨c0,c1,c2,cf,lr⟩:=h.cells
 have cf2:=cf 2
 have H:Aside (RdB (w.setCell ⟨rb,2,none⟩ (.int .i64 ((k:Int)+m))) rb s p (k+m)):=by
  have:=h.heavy (k+m) hm
  rw[Int.natCast_add] at this
  exact this
 have T:Aside (Zaa (·=rb) w (w.setCell ⟨rb,2,none⟩ (.int .i64 ((k:Int)+m)))):=(Zaa.refl (·=rb) w).setCell (p:=⟨rb,2,none⟩) (Or.inl rfl) _
 clear h
 by_cases hw:k+m≤600
 ·have hwi:((k:Nat):Int)+((m:Nat):Int)≤600:=by omega
  go_enter func162,ntmps162
  go_wp2
  go_ret
  exact⟨T.out,H.out,Or.inl ⟨hw,rfl⟩⟩
 ·have hwi:(600:Int)<((k:Nat):Int)+((m:Nat):Int):=by omega
  go_enter func162,ntmps162
  go_wp2
  go_ret
  exact⟨T.out,H.out,Or.inr ⟨by omega,_,⟨_,rfl⟩,rfl⟩⟩
theorem Zro (c:UInt8)(s:ByteArray)(w:World)(hs:s.size≤maxLen):
  Calls prog 200 #[.string s,.string ⟨#[c]⟩] w fun e w'=>e=.returned (.bool (Zad c s.data.toList))∧w'=w:=by
 unfold maxLen at hs
 by_cases h:1≤s.size
 ·have h2:(1:Int)≤s.size:=by omega
  go_enter func200,ntmps200
  go_wp2
  go_ret
  exact⟨Zdn (ext01 s c),rfl⟩
 ·have h2:(s.size:Int)<1:=by omega
  have h3:=Zhj s c h
  go_enter func200,ntmps200
  go_wp2
  all_goals (go_ret;exact⟨rfl,rfl⟩)
theorem Zsr {c:UInt8}{s:ByteArray}{p:Nat}(h:Zad c (s.data.toList.drop p)=true):p<s.size:=by
 rcases Nat.lt_or_ge p s.size with g | g
 ·exact g
 ·rw[List.drop_eq_nil_of_le (by rw[Zax];exact g)] at h
  simp[Zad] at h
theorem Zkj {w:World}{rb:Nat}{s:ByteArray}{p k:Nat}(h:RdB w rb s p k)(c:UInt8):
  Calls prog 163 #[.pointer (some ⟨rb,0,none⟩),.string ⟨#[c]⟩] w fun e w'=>Zaa (·=rb) w w'∧e=.returned (.bool (Zad c (s.data.toList.drop p)))∧RdB w' rb s (if Zad c (s.data.toList.drop p) then p+1 else p) k:=by
 obtain⟨c0,c1,c2,cf,lr⟩:=h.cells
 have cf1:=cf 1
 have hp:=h.hp
 have hs:=h.hs
 have hpi:((p:Nat):Int)≤((s.size:Nat):Int):=by omega
 have er:(s.extract p s.size).data.toList=s.data.toList.drop p:=Lib.extract_to_end s p
 have ch:=fun w=>Zro c (s.extract p s.size) w (by rw[←Zax,er,List.length_drop,Zax];unfold maxLen;omega)
 rw[er] at ch
 cases hb:Zad c (s.data.toList.drop p) with
 | false =>
  rw[hb] at ch
  have H:=h
  clear h er hb
  go_enter func163,ntmps163
  go_wp2_with fail
  go_quiet ((go_at_call 200;refine Calls.quiet_of_same (ch _)))
  go_wp2
  go_ret
  exact⟨(Zaa.refl (·=rb) w).drewN _,rfl,H.drewN _⟩
 | true =>
  rw[hb] at ch
  have hlt:=Zsr hb
  have H:Aside (∀n,RdB ((w.drewN n).setCell ⟨rb,1,none⟩ (.int .i64 ((p:Int)+1))) rb s (p+1) k):=fun n=>by
   have:=(h.drewN n).move (p+1) (by omega)
   rw[Int.natCast_add] at this
   exact this
  clear h er hb
  go_enter func163,ntmps163
  go_wp2_with fail
  go_quiet ((go_at_call 200;refine Calls.quiet_of_same (ch _)))
  go_wp2
  go_ret
  exact⟨((Zaa.refl (·=rb) w).drewN _).setCell (p:=⟨rb,1,none⟩) (Or.inl rfl) _,rfl,H.out _⟩
theorem Zw0 (t:ByteArray)(r:Nat):(t.extract 0 r).data.toList=t.data.toList.take r:=by simp[ByteArray.data_extract]
theorem Zwi (q:UInt8→Bool)(s:ByteArray)(p:Nat)(hp:p≤s.size):p+Zbd q (s.data.toList.drop p)≤s.size:=by
 have:=Zdb q (s.data.toList.drop p)
 rw[List.length_drop,Zax] at this
 omega
theorem Zq0 {w:World}{rb:Nat}{s:ByteArray}{p k:Nat}(h:RdB w rb s p k):
  Calls prog 202 #[.pointer (some ⟨rb,0,none⟩),.func (.func 203) #[] #[]] w fun e w'=>Zaa (·=rb) w w'∧(∃t:ByteArray,t.data.toList=(s.data.toList.drop p).take (Zbd Zav (s.data.toList.drop p))∧e=.returned (.string t))∧RdB w' rb s (p+Zbd Zav (s.data.toList.drop p)) k:=by
 obtain⟨c0,c1,c2,cf,lr⟩:=h.cells
 have cf1:=cf 1
 have hp:=h.hp
 have hs:=h.hs
 have hpi:((p:Nat):Int)≤((s.size:Nat):Int):=by omega
 have er:(s.extract p s.size).data.toList=s.data.toList.drop p:=Lib.extract_to_end s p
 have esz:(s.extract p s.size).size=s.size-p:=by rw[←Zax,er,List.length_drop,Zax]
 have ch:=fun w=>Zgt (s.extract p s.size) w (by rw[esz];unfold maxLen;omega)
 rw[er] at ch
 have hrl:=Zwi Zav s p hp
 have hrl2:Zbd Zav (s.data.toList.drop p)≤(s.extract p s.size).size:=by omega
 have TT:Aside (((s.extract p s.size).extract 0 (Zbd Zav (s.data.toList.drop p))).data.toList=(s.data.toList.drop p).take (Zbd Zav (s.data.toList.drop p))):=by
  show _=_
  rw[Zw0,er]
 have TZ:Aside (((s.extract p s.size).extract 0 (Zbd Zav (s.data.toList.drop p))).size=Zbd Zav (s.data.toList.drop p)):=by
  show _=_
  rw[←Zax,TT.out,List.length_take,List.length_drop,Zax]
  omega
 have H:Aside (∀n,RdB ((w.drewN n).setCell ⟨rb,1,none⟩ (.int .i64 (((p+Zbd Zav (s.data.toList.drop p):Nat)):Int))) rb s (p+Zbd Zav (s.data.toList.drop p)) k):=fun n=>(h.drewN n).move _ hrl
 clear h er
 generalize Zbd Zav (s.data.toList.drop p)=r at *
 go_enter func202,ntmps202
 go_wp2_with fail
 go_quiet ((go_at_call 134;refine Calls.quiet_of_same (ch _)))
 have hsum:IntKind.i64.wrap (((p:Nat):Int)+((r:Nat):Int))=((p+r:Nat):Int):=by rw[IntKind.wrap_i64];omega
 have htz:=TZ.out
 generalize (s.extract p s.size).extract 0 r=t at *
 go_wp2
 go_ret
 refine⟨((Zaa.refl (·=rb) w).drewN _).setCell (p:=⟨rb,1,none⟩) (Or.inl rfl) _,⟨t,TT.out,rfl⟩,?_⟩
 have:=H.out nq
 rw[Int.natCast_add] at this
 exact this
theorem Zma {w:World}{rb:Nat}{s:ByteArray}{p k:Nat}(h:RdB w rb s p k):
  Calls prog 202 #[.pointer (some ⟨rb,0,none⟩),.func (.func 85) #[] #[]] w fun e w'=>Zaa (·=rb) w w'∧(∃t:ByteArray,t.data.toList=(s.data.toList.drop p).take (Zbd Zc0 (s.data.toList.drop p))∧e=.returned (.string t))∧RdB w' rb s (p+Zbd Zc0 (s.data.toList.drop p)) k:=by
 obtain⟨c0,c1,c2,cf,lr⟩:=h.cells
 have cf1:=cf 1
 have hp:=h.hp
 have hs:=h.hs
 have hpi:((p:Nat):Int)≤((s.size:Nat):Int):=by omega
 have er:(s.extract p s.size).data.toList=s.data.toList.drop p:=Lib.extract_to_end s p
 have esz:(s.extract p s.size).size=s.size-p:=by rw[←Zax,er,List.length_drop,Zax]
 have ch:=fun w=>Zio (s.extract p s.size) w (by rw[esz];unfold maxLen;omega)
 rw[er] at ch
 have hrl:=Zwi Zc0 s p hp
 have hrl2:Zbd Zc0 (s.data.toList.drop p)≤(s.extract p s.size).size:=by omega
 have TT:Aside (((s.extract p s.size).extract 0 (Zbd Zc0 (s.data.toList.drop p))).data.toList=(s.data.toList.drop p).take (Zbd Zc0 (s.data.toList.drop p))):=by
  show _=_
  rw[Zw0,er]
 have TZ:Aside (((s.extract p s.size).extract 0 (Zbd Zc0 (s.data.toList.drop p))).size=Zbd Zc0 (s.data.toList.drop p)):=by
  show _=_
  rw[←Zax,TT.out,List.length_take,List.length_drop,Zax]
  omega
 have H:Aside (∀n,RdB ((w.drewN n).setCell ⟨rb,1,none⟩ (.int .i64 (((p+Zbd Zc0 (s.data.toList.drop p):Nat)):Int))) rb s (p+Zbd Zc0 (s.data.toList.drop p)) k):=fun n=>(h.drewN n).move _ hrl
 clear h er
 generalize Zbd Zc0 (s.data.toList.drop p)=r at *
 go_enter func202,ntmps202
 go_wp2_with fail
 go_quiet ((go_at_call 134;refine Calls.quiet_of_same (ch _)))
 have hsum:IntKind.i64.wrap (((p:Nat):Int)+((r:Nat):Int))=((p+r:Nat):Int):=by rw[IntKind.wrap_i64];omega
 have htz:=TZ.out
 generalize (s.extract p s.size).extract 0 r=t at *
 go_wp2
 go_ret
 refine⟨((Zaa.refl (·=rb) w).drewN _).setCell (p:=⟨rb,1,none⟩) (Or.inl rfl) _,⟨t,TT.out,rfl⟩,?_⟩
 have:=H.out nq
 rw[Int.natCast_add] at this
 exact this
end Go.Proofs.YtliapghpeoaonaaGreatDoor
namespace Go.Proofs.YtliapghpeoaonaaGreatDoor
open Go.Proofs.Tryz
open Go.Lib
def Zrr (acc:Nat)(l:List UInt8):Int:=l.foldl (fun n c=>10*n+((c.toNat:Int)-48)) (acc:Int)
theorem Zk3 {acc:Nat}{c:UInt8}{l:List UInt8}(h:48≤c.toNat):Zrr acc (c::l)=Zrr (acc*10+(c.toNat-48)) l:=by
 unfold Zrr
 rw[List.foldl_cons]
 congr 1
 omega
theorem Zhn {M:Nat}:∀(l:List UInt8) (acc u:Nat),parseUintM M acc l=.ok u→(u:Int)=Zrr acc l
 | [],acc,u,h=>by
  simp only[parseUintM,NumEnd.ok.injEq] at h
  subst h
  rfl
 | c::l,acc,u,h=>by
  simp only[parseUintM] at h
  split at h
  ·rename_i hc
   split at h
   ·cases h
   ·split at h
    ·cases h
    ·rw[Zk3 hc.1]
     exact Zhn l _ u h
  ·cases h
theorem Zwz:∀(l:List UInt8) (acc:Nat),(∀c∈l,Zav c=true)→(acc:Int)≤Zrr acc l
 | [],acc,_=>by simp[Zrr]
 | c::l,acc,h=>by
  have hc:=h c (by simp)
  simp[Zav,UInt8.le_iff_toNat_le] at hc
  rw[Zk3 hc.1]
  have:=Zwz l (acc*10+(c.toNat-48)) fun x hx=>h x (by simp[hx])
  omega
theorem Znt:∀(l:List UInt8) (acc:Nat),(∀c∈l,Zav c=true)→Zrr acc l≤9223372036854775808→∃u,parseUintM (2 ^ 64-1) acc l=.ok u
 | [],acc,_,_=>⟨acc,rfl⟩
 | c::l,acc,h,hb=>by
  have hc:=h c (by simp)
  simp[Zav,UInt8.le_iff_toNat_le] at hc
  rw[Zk3 hc.1] at hb
  have h1:=Zwz l (acc*10+(c.toNat-48)) fun x hx=>h x (by simp[hx])
  obtain⟨u,hu⟩:=Znt l (acc*10+(c.toNat-48)) (fun x hx=>h x (by simp[hx])) hb
  refine⟨u,?_⟩
  simp only[parseUintM]
  rw[if_pos hc,if_neg (by omega),if_neg (by omega)]
  exact hu
structure SgD (t:List UInt8):Prop where
 dg:∀c∈Zaj t,Zav c=true
theorem Zs4 {t:List UInt8}(ht:SgD t){v:Int}(h:parseIntB 64 t=.ok v):v=Zbb t∧Zih v:=by
 cases t with
 | nil=>simp[parseIntB] at h
 | cons c r =>
  have hd:=ht.dg
  by_cases hm:c=45
  ·subst hm
   have hsm:Zad 45 (45::r)=true:=by simp[Zad]
   have e:parseIntB 64 (45::r)=match parseUintB 64 r with | .syntax=>.syntax | .range=>.range | .ok u=>if 2 ^ 63<u then .range else .ok (-(u:Int)):=by
    simp[parseIntB]
    cases parseUintB 64 r<;>rfl
   rw[e] at h
   cases hu:parseUintB 64 r with
   | «syntax»=>rw[hu] at h;cases h
   | range=>rw[hu] at h;cases h
   | ok u =>
    rw[hu] at h
    simp only at h
    split at h
    ·cases h
    ·rename_i hb
     simp only[NumEnd.ok.injEq] at h
     unfold parseUintB at hu
     split at hu
     ·cases hu
     ·have h2:=Zhn r 0 u hu
      subst h
      refine⟨?_,by unfold Zih;omega⟩
      unfold Zbb
      rw[if_pos hsm,h2]
      rfl
  ·have hsm:Zad 45 (c::r)=false:=by simp[Zad,hm]
   have hun:Zaj (c::r)=c::r:=by simp[Zaj,hsm]
   rw[hun] at hd
   have hc:=hd c (by simp)
   simp[Zav,UInt8.le_iff_toNat_le] at hc
   have e:parseIntB 64 (c::r)=match parseUintB 64 (c::r) with | .syntax=>.syntax | .range=>.range | .ok u=>if 2 ^ 63≤u then .range else .ok (u:Int):=by
    have n1:¬ c.toNat=43:=by omega
    have n2:¬ c.toNat=45:=by omega
    simp[parseIntB,n1,n2]
    cases parseUintB 64 (c::r)<;>rfl
   rw[e] at h
   cases hu:parseUintB 64 (c::r) with
   | «syntax»=>rw[hu] at h;cases h
   | range=>rw[hu] at h;cases h
   | ok u =>
    rw[hu] at h
    simp only at h
    split at h
    ·cases h
    ·rename_i hb
     simp only[NumEnd.ok.injEq] at h
     unfold parseUintB at hu
     rw[if_neg (by simp)] at hu
     have h2:=Zhn _ 0 u hu
     subst h
     refine⟨?_,by unfold Zih;omega⟩
     unfold Zbb
     rw[hsm,if_neg (by simp),h2]
     rfl
theorem parse_of {t:List UInt8}(ht:SgD t)(hne:Zaj t≠[])(hv:Zih (Zbb t)):parseIntB 64 t=.ok (Zbb t):=by
 unfold Zih at hv
 cases t with
 | nil=>simp[Zaj,Zad] at hne
 | cons c r =>
  have hd:=ht.dg
  by_cases hm:c=45
  ·subst hm
   have hsm:Zad 45 (45::r)=true:=by simp[Zad]
   have hun:Zaj (45::r)=r:=by simp[Zaj,hsm]
   rw[hun] at hd hne
   have hnv:Zbb (45::r)=- Zrr 0 r:=by unfold Zbb;rw[if_pos hsm];rfl
   obtain⟨u,hu⟩:=Znt r 0 hd (by omega)
   have h2:=Zhn r 0 u hu
   have e:parseIntB 64 (45::r)=match parseUintB 64 r with | .syntax=>.syntax | .range=>.range | .ok u=>if 2 ^ 63<u then .range else .ok (-(u:Int)):=by
    simp[parseIntB]
    cases parseUintB 64 r<;>rfl
   have hub:parseUintB 64 r=.ok u:=by unfold parseUintB;rw[if_neg hne];exact hu
   rw[e,hub,hnv,←h2]
   simp only
   rw[if_neg (by omega)]
  ·have hsm:Zad 45 (c::r)=false:=by simp[Zad,hm]
   have hun:Zaj (c::r)=c::r:=by simp[Zaj,hsm]
   rw[hun] at hd
   have hc:=hd c (by simp)
   simp[Zav,UInt8.le_iff_toNat_le] at hc
   have hnv:Zbb (c::r)=Zrr 0 (c::r):=by unfold Zbb;rw[hsm,if_neg (by simp)];rfl
   obtain⟨u,hu⟩:=Znt (c::r) 0 hd (by omega)
   have h2:=Zhn (c::r) 0 u hu
   have e:parseIntB 64 (c::r)=match parseUintB 64 (c::r) with | .syntax=>.syntax | .range=>.range | .ok u=>if 2 ^ 63≤u then .range else .ok (u:Int):=by
    have n1:¬ c.toNat=43:=by omega
    have n2:¬ c.toNat=45:=by omega
    simp[parseIntB,n1,n2]
    cases parseUintB 64 (c::r)<;>rfl
   have hub:parseUintB 64 (c::r)=.ok u:=by unfold parseUintB;rw[if_neg (by simp)];exact hu
   rw[e,hub,hnv,←h2]
   simp only
   rw[if_neg (by omega)]
end Go.Proofs.YtliapghpeoaonaaGreatDoor
namespace Go.Proofs.YtliapghpeoaonaaGreatDoor
open Go.Proofs.Tryz
open Go.RowKit Go.Shelf Go.Sort
attribute [local go_sem ↓] Go.wp_at_zero Go.wp_at_succ
theorem Zum (l:List UInt8):Zaj (l.take (Zcd l))=(Zaj l).take (Zbd Zav (Zaj l)):=by
 cases h:Zad 45 l with
 | false =>
  have hu:Zaj l=l:=by simp[Zaj,h]
  have hn:Zcd l=Zbd Zav l:=by unfold Zcd;rw[hu];omega
  rw[hn,hu]
  have h2:Zad 45 (l.take (Zbd Zav l))=false:=by
   cases l with
   | nil=>simp[Zad]
   | cons c r =>
    cases hk:Zbd Zav (c::r) with
    | zero=>simp[Zad]
    | succ k=>rw[List.take_succ_cons];simpa[Zad] using h
  simp[Zaj,h2]
 | true =>
  cases l with
  | nil=>simp[Zad] at h
  | cons c r =>
   have hc:c=45:=by simpa[Zad] using h
   subst hc
   have hu:Zaj (45::r)=r:=by simp[Zaj,h]
   have hn:Zcd (45::r)=Zbd Zav r+1:=by unfold Zcd;rw[hu];simp;omega
   rw[hn,hu,List.take_succ_cons]
   simp[Zaj,Zad]
theorem sgD_take (l:List UInt8):SgD (l.take (Zcd l)):=⟨fun c hc=>by
 rw[Zum,Zql] at hc
 exact Zn3 Zav _ c hc⟩
structure Zl4 (w:World):Prop where
 p10:Zpa w
 sy:∃te pe,w.cell? ⟨13,0,none⟩=some (.iface te pe)
 ra:∃te pe,w.cell? ⟨14,0,none⟩=some (.iface te pe)
theorem Zl4.touch {w w':World}{rb:Nat}(h:Zl4 w)(ht:Zaa (·=rb) w w')(hr:15≤rb):Zl4 w':=by
 obtain⟨h1,⟨a,b,h2⟩,⟨c,d,h3⟩⟩:=h
 refine⟨?_,⟨a,b,ht.cell h2 (by show ¬ (13:Nat)=rb;omega)⟩,⟨c,d,ht.cell h3 (by show ¬ (14:Nat)=rb;omega)⟩⟩
 unfold Zpa Lib.TabIs World.var? at h1 ⊢
 have hg:prog.globalNamed "internal/strconv.uint64pow10" = some 10:=by kernel_rfl
 rw[hg] at h1 ⊢
 simp only[Option.bind_some] at h1 ⊢
 cases hh:w.heap[(10:Nat)]? with
 | none=>rw[hh] at h1;cases h1
 | some o=>rw[ht.block _ (Zag hh) (by omega),←h1,hh]
theorem Zya (t:ByteArray)(w:World)(hs:t.size≤1000000000000)(hG:Zl4 w):
  Calls prog 204 #[.string t,.int .i64 10,.int .i64 64] w fun e w'=>Below w.heap.size w w'∧((∃v,Lib.parseIntB 64 t.data.toList=.ok v∧e=.returned (.tuple #[.int .i64 v,.nilIface]))∨((∀v,Lib.parseIntB 64 t.data.toList≠.ok v)∧∃z te pe,e=.returned (.tuple #[.int .i64 z,.iface te pe]))):=by
 obtain⟨_,⟨a,b,h2⟩,⟨c,d,h3⟩⟩:=hG
 cases hP:Lib.parseIntB 64 t.data.toList with
 | ok v =>
  have k:Calls prog 204 #[.string t,.int .i64 10,.int .i64 64] w _:=Any.strconv_ParseInt_10_at64_ok Z16 t (by omega) v hP w
  refine k.mono fun e w' ⟨h1,h4⟩=>⟨?_,Or.inl ⟨v,rfl,h1⟩⟩
  rcases h4 with rfl | ⟨x,rfl⟩
  ·exact Below.refl _ _
  ·exact Lib.bytesWorld_below _ _ _
 | «syntax» =>
  have k:Calls prog 204 #[.string t,.int .i64 10,.int .i64 64] w _:=Any.strconv_ParseInt_10_at64_syntax Z16 t (by omega) hP _ w h2 (Or.inr ⟨_,_,rfl⟩)
  exact k.mono fun e w' ⟨N,h1,_,_,h5⟩=>⟨h5,Or.inr ⟨(fun v h=>by cases h),_,_,_,h1⟩⟩
 | range =>
  have k:Calls prog 204 #[.string t,.int .i64 10,.int .i64 64] w _:=Any.strconv_ParseInt_10_at64_range Z16 t (by omega) hP _ w h3 (Or.inr ⟨_,_,rfl⟩)
  exact k.mono fun e w' ⟨N,h1,_,_,h5⟩=>⟨h5,Or.inr ⟨(fun v h=>by cases h),_,_,_,h1⟩⟩
theorem Zl4.below {w w':World}(h:Zl4 w)(hb:Below w.heap.size w w'):Zl4 w':=by
 obtain⟨h1,⟨a,b,h2⟩,⟨c,d,h3⟩⟩:=h
 exact⟨h1.below hb,⟨a,b,Below.cellv hb h2⟩,⟨c,d,Below.cellv hb h3⟩⟩
theorem Zaa.below_at {rb:Nat}{w a b:World}(h:Zaa (·=rb) w a)(hb:Below a.heap.size a b):Zaa (·=rb) w b:=h.trans (Zaa.of_below hb)
theorem Z2n (s:ByteArray)(p q:Nat):(s.extract p q).data.toList=(s.data.toList.drop p).take (q-p):=by simp[ByteArray.data_extract]
theorem Zvx (s:ByteArray)(p:Nat):s.data.toList.drop (if Zad 45 (s.data.toList.drop p) then p+1 else p)=Zaj (s.data.toList.drop p):=by
 unfold Zaj
 split
 ·rename_i h;simp[List.drop_drop]
 ·rfl
theorem Z0y (s:ByteArray)(p:Nat):(if Zad 45 (s.data.toList.drop p) then p+1 else p)+Zbd Zav (Zaj (s.data.toList.drop p))=p+Zcd (s.data.toList.drop p):=by
 unfold Zcd Zaj
 split
 ·rename_i h
  have:=congrArg List.length (Zcg h)
  rw[List.length_cons] at this
  omega
 ·omega
theorem Zwt {t:List UInt8}(ht:SgD t)(h:∀v,Lib.parseIntB 64 t≠.ok v):Zfm t=none:=by
 unfold Zfm
 split
 ·rename_i g
  by_cases hne:Zaj t=[]
  ·exfalso
   have hn:Lib.itoa (Zbb t)=t:=g.1
   have:Zbb t=0:=by
    unfold Zaj at hne
    unfold Zbb
    split at hne
    ·rename_i h1;rw[if_pos h1,hne];rfl
    ·rename_i h1;rw[if_neg h1,hne];rfl
   rw[this] at hn
   rw[←hn] at hne
   revert hne
   have:Lib.itoa 0=[48]:=by simp[Lib.itoa,Lib.decDigits]
   rw[this]
   decide
  ·exact absurd (parse_of ht hne g.2) (h _)
 ·rfl
theorem Z1j {t:List UInt8}(ht:SgD t){v:Int}(h:Lib.parseIntB 64 t=.ok v):Zfm t=if Lib.itoa v=t then some v else none:=by
 obtain⟨rfl,hv⟩:=Zs4 ht h
 unfold Zfm
 simp[hv]
def Z1i (_w:World)(rb:Nat)(s:ByteArray)(p k:Nat)(e:Ending)(w':World):Prop :=
 (∃z,Zfm ((s.data.toList.drop p).take (Zcd (s.data.toList.drop p)))=some z∧e=.returned (.tuple #[.iface 228 (.int .i64 z),.nilIface])∧RdB w' rb s (p+Zcd (s.data.toList.drop p)) k) ∨
 (Zfm ((s.data.toList.drop p).take (Zcd (s.data.toList.drop p)))=none∧∃x,whyV x∧e=.returned (.tuple #[.nilIface,x])∧RdB w' rb s p k)
theorem Z1h {w:World}{rb:Nat}{s:ByteArray}{p k:Nat}(h:RdB w rb s p k)(hG:Zl4 w)(hr:15≤rb):
  Calls prog 166 #[.pointer (some ⟨rb,0,none⟩)] w fun e w'=>Zaa (·=rb) w w'∧Z1i w rb s p k e w':=by
 have hn:=Ztd (s.data.toList.drop p)
 rw[List.length_drop,Zax] at hn
 have hp:=h.hp
 have hs:=h.hs
 have hsd:=sgD_take (s.data.toList.drop p)
 have ex:(s.extract p (p+Zcd (s.data.toList.drop p))).data.toList=(s.data.toList.drop p).take (Zcd (s.data.toList.drop p)):=by rw[Z2n,Nat.add_sub_cancel_left]
 have exz:(s.extract p (p+Zcd (s.data.toList.drop p))).size≤1000000000000:=by rw[←Zax,ex,List.length_take,List.length_drop,Zax];omega
 have CT:Hid (Calls prog 163 #[.pointer (some ⟨rb,0,none⟩),.string ⟨#[45]⟩] w fun e w'=>Zaa (·=rb) w w'∧(∃b,e=.returned (.bool b))∧RdB w' rb s (if Zad 45 (s.data.toList.drop p) then p+1 else p) k):=(Zkj h 45).mono fun e w' ⟨a,b,c⟩=>⟨a,⟨_,b⟩,c⟩
 have CR:Hid (∀X,RdB X rb s (if Zad 45 (s.data.toList.drop p) then p+1 else p) k→Calls prog 202 #[.pointer (some ⟨rb,0,none⟩),.func (.func 203) #[] #[]] X fun e w'=>Zaa (·=rb) X w'∧(∃t:ByteArray,e=.returned (.string t))∧RdB w' rb s (p+Zcd (s.data.toList.drop p)) k):=fun X hX=>(Zq0 hX).mono fun e w' ⟨a,⟨t,_,b⟩,c⟩=>⟨a,⟨t,b⟩,by rw[Zvx,Z0y] at c;exact c⟩
 obtain⟨c0,c1,c2,cf,lr⟩:=h.cells
 unfold Z1i
 generalize (if Zad 45 (s.data.toList.drop p) then p+1 else p)=p1 at *
 generalize hT:(s.data.toList.drop p).take (Zcd (s.data.toList.drop p))=T at *
 have hq0:p≤p+Zcd (s.data.toList.drop p):=by omega
 have hq1:p+Zcd (s.data.toList.drop p)≤s.size:=by omega
 generalize p+Zcd (s.data.toList.drop p)=q at *
 have hq0i:(p:Int)≤q:=by omega
 have hq1i:(q:Int)≤s.size:=by omega
 have B:∀{X:World},RdB X rb s q k→Aside (∀Y,Below X.heap.size X Y→RdB Y rb s q k∧RdB (Y.setCell ⟨rb,1,none⟩ (.int .i64 (p:Int))) rb s p k):=fun hX Y hb=>⟨hX.below hb,(hX.below hb).move p hp⟩
 have CP:=fun X hX=>Zya (s.extract p q) X exz hX
 rw[ex] at CP
 have CB:Hid (∀X:World,RdB X rb s q k→X.cell? ⟨rb,0,none⟩=some (.string s)∧X.cell? ⟨rb,1,none⟩=some (.int .i64 ((q:Nat):Int))∧(∀j,X.frozen? ⟨rb,j,none⟩=false)∧rb<X.heap.size):=fun X hX=>⟨hX.cells.1,hX.cells.2.1,hX.cells.2.2.2.1,hX.cells.2.2.2.2⟩
 have MV:Hid (∀X:World,RdB X rb s q k→RdB (X.setCell ⟨rb,1,none⟩ (.int .i64 (p:Int))) rb s p k∧Zaa (·=rb) X (X.setCell ⟨rb,1,none⟩ (.int .i64 (p:Int)))):=fun X hX=>⟨hX.move p hp,(Zaa.refl (·=rb) X).setCell (p:=⟨rb,1,none⟩) (Or.inl rfl) _⟩
 have hGw:=hG
 have G1:Hid (∀X,Zaa (·=rb) w X→Zl4 X):=fun X hX=>hGw.touch hX hr
 cases hP:Lib.parseIntB 64 T with
 | ok v =>
  have hv:=(Zs4 hsd hP).2
  rw[Z1j hsd hP]
  have CPH:Hid (∀X,Zl4 X→Calls prog 204 #[.string (s.extract p q),.int .i64 10,.int .i64 64] X fun e w'=>Below X.heap.size X w'∧e=.returned (.tuple #[.int .i64 v,.nilIface])):=fun X hX=>(CP X hX).mono fun e w' ⟨a,b⟩=>⟨a,by
   rcases b with ⟨v',h1,h2⟩ | ⟨h1,_⟩
   ·rw[hP] at h1;cases h1;exact h2
   ·exact absurd hP (h1 v)⟩
  have CF:Hid (∀X,Zl4 X→Calls prog 115 #[.int .i64 v,.int .i64 10] X fun e w'=>e=.returned (.string ⟨(Lib.itoa v).toArray⟩)∧Below X.heap.size X w'):=fun X hX=>(Zj7 v X hv hX.p10).mono fun e w' ⟨a,kd,os,b⟩=>⟨a,by rw[b];exact Zwx (Q:=fun w=>Below X.heap.size X w) (fun w o h=>h.alloc h.size o) os _ (below_drewN (Below.refl _ _) kd)⟩
  clear CP hsd hP h hG hGw exz
  by_cases he:Lib.itoa v=T
  ·have he2:(⟨(Lib.itoa v).toArray⟩:ByteArray)=s.extract p q:=by
    have:(s.extract p q).data=(Lib.itoa v).toArray:=by rw[he,←ex]
    rw[←this]
   rw[he2] at CF
   rw[if_pos he]
   clear he ex he2 hT B
   go_enter func166,ntmps166
   go_wp2_with (first
    |(go_at_call 163;refine CT.out.mono ?_;rintro e w1 ⟨ht1,⟨b1,rfl⟩,h1⟩)
    |(go_at_call 202;refine (CR.out _ h1).mono ?_;rintro e w2 ⟨ht2,⟨t2,rfl⟩,h2⟩;obtain⟨d0,d1,df,dl⟩:=CB.out _ h2))
   go_quiet (fail)
   go_wp2_with (first
    |(go_at_call 204;refine (CPH.out _ (G1.out _ ((ht1.trans ht2).drewN _))).mono ?_;rintro e w3 ⟨hb3,rfl⟩)
    |(go_at_call 115;refine (CF.out _ ((G1.out _ ((ht1.trans ht2).drewN _)).below hb3)).mono ?_;rintro e w4 ⟨rfl,hb4⟩))
   go_ret2
   exact⟨((((ht1.trans ht2).drewN _).below_at hb3).below_at hb4),Or.inl ⟨v,rfl,rfl,((h2.drewN _).below hb3).below hb4⟩⟩
  ·have he2:((⟨(Lib.itoa v).toArray⟩:ByteArray).toList==(s.extract p q).toList)=false:=by
    rw[ByteArray.toList_eq,ByteArray.toList_eq,ex]
    simpa using he
   rw[if_neg he]
   clear he ex hT B
   generalize (⟨(Lib.itoa v).toArray⟩:ByteArray)=R at *
   have CX:Hid (∀a b c:World,RdB a rb s q k→Below a.heap.size a b→Below b.heap.size b c→c.cell? ⟨rb,0,none⟩=some (.string s)∧c.cell? ⟨rb,1,none⟩=some (.int .i64 ((q:Nat):Int))∧(∀j,c.frozen? ⟨rb,j,none⟩=false)∧rb<c.heap.size):=fun a b c h1 h2 h3=>CB.out _ ((h1.below h2).below h3)
   go_enter func166,ntmps166
   go_wp2_with (first
    |(go_at_call 163;refine CT.out.mono ?_;rintro e w1 ⟨ht1,⟨b1,rfl⟩,h1⟩)
    |(go_at_call 202;refine (CR.out _ h1).mono ?_;rintro e w2 ⟨ht2,⟨t2,rfl⟩,h2⟩;obtain⟨d0,d1,df,dl⟩:=CB.out _ h2))
   go_quiet (fail)
   go_wp2_with (first
    |(go_at_call 204;refine (CPH.out _ (G1.out _ ((ht1.trans ht2).drewN _))).mono ?_;rintro e w3 ⟨hb3,rfl⟩)
    |(go_at_call 115;refine (CF.out _ ((G1.out _ ((ht1.trans ht2).drewN _)).below hb3)).mono ?_;rintro e w4 ⟨rfl,hb4⟩;obtain⟨g0,g1,gf,gl⟩:=CX.out _ _ _ (h2.drewN _) hb3 hb4;have gf1:=gf 1))
   go_ret2
   have hz:=((h2.drewN _).below hb3).below hb4
   exact⟨(((((ht1.trans ht2).drewN _).below_at hb3).below_at hb4).trans (MV.out _ hz).2),Or.inr ⟨(by trivial),_,⟨_,rfl⟩,rfl,(MV.out _ hz).1⟩⟩
 | «syntax» =>
  have hno:∀v,Lib.parseIntB 64 T≠.ok v:=fun v g=>by rw[hP] at g;cases g
  rw[Zwt hsd hno]
  have CPH:Hid (∀X,Zl4 X→Calls prog 204 #[.string (s.extract p q),.int .i64 10,.int .i64 64] X fun e w'=>Below X.heap.size X w'∧∃z te pe,e=.returned (.tuple #[.int .i64 z,.iface te pe])):=fun X hX=>(CP X hX).mono fun e w' ⟨a,b⟩=>⟨a,by
   rcases b with ⟨v',h1,h2⟩ | ⟨h1,h2⟩
   ·exact absurd h1 (hno _)
   ·exact h2⟩
  clear CP hsd hP h hG hGw exz hno ex hT B
  have CX:Hid (∀a b:World,RdB a rb s q k→Below a.heap.size a b→b.cell? ⟨rb,0,none⟩=some (.string s)∧b.cell? ⟨rb,1,none⟩=some (.int .i64 ((q:Nat):Int))∧(∀j,b.frozen? ⟨rb,j,none⟩=false)∧rb<b.heap.size):=fun a b h1 h2=>CB.out _ (h1.below h2)
  go_enter func166,ntmps166
  go_wp2_with (first
   |(go_at_call 163;refine CT.out.mono ?_;rintro e w1 ⟨ht1,⟨b1,rfl⟩,h1⟩)
   |(go_at_call 202;refine (CR.out _ h1).mono ?_;rintro e w2 ⟨ht2,⟨t2,rfl⟩,h2⟩;obtain⟨d0,d1,df,dl⟩:=CB.out _ h2))
  go_quiet (fail)
  go_wp2_with (go_at_call 204;refine (CPH.out _ (G1.out _ ((ht1.trans ht2).drewN _))).mono ?_;rintro e w3 ⟨hb3,z,te,pe,rfl⟩;obtain⟨g0,g1,gf,gl⟩:=CX.out _ _ (h2.drewN _) hb3;have gf1:=gf 1)
  go_ret2
  have hz:=(h2.drewN _).below hb3
  exact⟨((((ht1.trans ht2).drewN _).below_at hb3).trans (MV.out _ hz).2),Or.inr ⟨(by trivial),_,⟨_,rfl⟩,rfl,(MV.out _ hz).1⟩⟩
 | range =>
  have hno:∀v,Lib.parseIntB 64 T≠.ok v:=fun v g=>by rw[hP] at g;cases g
  rw[Zwt hsd hno]
  have CPH:Hid (∀X,Zl4 X→Calls prog 204 #[.string (s.extract p q),.int .i64 10,.int .i64 64] X fun e w'=>Below X.heap.size X w'∧∃z te pe,e=.returned (.tuple #[.int .i64 z,.iface te pe])):=fun X hX=>(CP X hX).mono fun e w' ⟨a,b⟩=>⟨a,by
   rcases b with ⟨v',h1,h2⟩ | ⟨h1,h2⟩
   ·exact absurd h1 (hno _)
   ·exact h2⟩
  clear CP hsd hP h hG hGw exz hno ex hT B
  have CX:Hid (∀a b:World,RdB a rb s q k→Below a.heap.size a b→b.cell? ⟨rb,0,none⟩=some (.string s)∧b.cell? ⟨rb,1,none⟩=some (.int .i64 ((q:Nat):Int))∧(∀j,b.frozen? ⟨rb,j,none⟩=false)∧rb<b.heap.size):=fun a b h1 h2=>CB.out _ (h1.below h2)
  go_enter func166,ntmps166
  go_wp2_with (first
   |(go_at_call 163;refine CT.out.mono ?_;rintro e w1 ⟨ht1,⟨b1,rfl⟩,h1⟩)
   |(go_at_call 202;refine (CR.out _ h1).mono ?_;rintro e w2 ⟨ht2,⟨t2,rfl⟩,h2⟩;obtain⟨d0,d1,df,dl⟩:=CB.out _ h2))
  go_quiet (fail)
  go_wp2_with (go_at_call 204;refine (CPH.out _ (G1.out _ ((ht1.trans ht2).drewN _))).mono ?_;rintro e w3 ⟨hb3,z,te,pe,rfl⟩;obtain⟨g0,g1,gf,gl⟩:=CX.out _ _ (h2.drewN _) hb3;have gf1:=gf 1)
  go_ret2
  have hz:=(h2.drewN _).below hb3
  exact⟨((((ht1.trans ht2).drewN _).below_at hb3).trans (MV.out _ hz).2),Or.inr ⟨(by trivial),_,⟨_,rfl⟩,rfl,(MV.out _ hz).1⟩⟩
theorem Z0v {w:World}{rb:Nat}{s:ByteArray}{p k:Nat}(h:RdB w rb s p k)(hk:k≤600):
  Calls prog 165 #[.pointer (some ⟨rb,0,none⟩)] w fun e w'=>Zaa (·=rb) w w'∧(
   (Zad 39 ((s.data.toList.drop p).drop (Zbd Zc0 (s.data.toList.drop p)))=true∧k+Zbd Zc0 (s.data.toList.drop p)≤600∧(∃t:ByteArray,t.data.toList=(s.data.toList.drop p).take (Zbd Zc0 (s.data.toList.drop p))∧e=.returned (.tuple #[.iface 231 (.string t),.nilIface]))∧RdB w' rb s (p+Zbd Zc0 (s.data.toList.drop p)+1) (k+Zbd Zc0 (s.data.toList.drop p))) ∨
   ((Zad 39 ((s.data.toList.drop p).drop (Zbd Zc0 (s.data.toList.drop p)))=true→600<k+Zbd Zc0 (s.data.toList.drop p))∧∃x p' k',whyV x∧e=.returned (.tuple #[.nilIface,x])∧RdB w' rb s p' k')):=by
 have hrl:=Zwi Zc0 s p h.hp
 have hs:=h.hs
 have hlt:((s.data.toList.drop p).take (Zbd Zc0 (s.data.toList.drop p))).length=Zbd Zc0 (s.data.toList.drop p):=by rw[List.length_take,List.length_drop,Zax];omega
 have CR:Hid (Calls prog 202 #[.pointer (some ⟨rb,0,none⟩),.func (.func 85) #[] #[]] w _):=Zma h
 have CW:Hid (∀X,RdB X rb s (p+Zbd Zc0 (s.data.toList.drop p)) k→Calls prog 162 #[.pointer (some ⟨rb,0,none⟩),.int .i64 ((Zbd Zc0 (s.data.toList.drop p):Nat):Int)] X _):=fun X hX=>Zwb hX (Zbd Zc0 (s.data.toList.drop p)) (by omega)
 have CT:Hid (∀X,RdB X rb s (p+Zbd Zc0 (s.data.toList.drop p)) (k+Zbd Zc0 (s.data.toList.drop p))→Calls prog 163 #[.pointer (some ⟨rb,0,none⟩),.string ⟨#[39]⟩] X _):=fun X hX=>Zkj hX 39
 rw[List.drop_drop]
 have CC:Hid (∀(t:ByteArray) (X:World),t.data.toList=(s.data.toList.drop p).take (Zbd Zc0 (s.data.toList.drop p))→Calls prog 86 #[.string t] X _):=fun t X ht=>Zt6 t X (by rw[←Zax,ht];omega)
 have LT:Hid (∀t:ByteArray,t.data.toList=(s.data.toList.drop p).take (Zbd Zc0 (s.data.toList.drop p))→t.size=Zbd Zc0 (s.data.toList.drop p)):=fun t ht=>by rw[←Zax,ht,hlt]
 clear h hlt
 generalize (s.data.toList.drop p).take (Zbd Zc0 (s.data.toList.drop p))=T at *
 generalize Zbd Zc0 (s.data.toList.drop p)=n at *
 have RT:Hid (∀X:World,Zaa (·=rb) X X):=fun X=>Zaa.refl _ X
 by_cases hw:k+n≤600
 ·have CW1:Hid (∀X,RdB X rb s (p+n) k→Calls prog 162 #[.pointer (some ⟨rb,0,none⟩),.int .i64 ((n:Nat):Int)] X fun e w'=>Zaa (·=rb) X w'∧RdB w' rb s (p+n) (k+n)∧e=.returned .nilIface):=fun X hX=>(CW.out X hX).mono fun e w' ⟨a,b,c⟩=>⟨a,b,by rcases c with c | c;exact c.2;omega⟩
  clear CW
  cases hb:Zad 39 (List.drop (p+n) s.data.toList) with
  | true =>
   rw[hb] at CT
   simp only[if_true] at CT
   go_enter func165,ntmps165
   go_wp2_with (first
    |(go_at_call 202;refine CR.out.mono ?_;rintro e w1 ⟨ht1,⟨t,htt,rfl⟩,h1⟩;have hts:=LT.out t htt)
    |(go_at_call 162;refine (CW1.out _ h1).mono ?_;rintro e w2 ⟨ht2,h2,rfl⟩)
    |(go_at_call 163;refine (CT.out _ h2).mono ?_;rintro e w3 ⟨ht3,rfl,h3⟩)
    |(go_at_call 86;refine (CC.out t _ htt).mono ?_;rintro e w4 ⟨rfl,hb4⟩))
   go_ret2
   exact⟨((ht1.trans ht2).trans ht3).below_at hb4,Or.inl ⟨by trivial,hw,⟨t,htt,rfl⟩,h3.below hb4⟩⟩
  | false =>
   rw[hb] at CT
   simp only[Bool.false_eq_true,if_false] at CT
   go_enter func165,ntmps165
   go_wp2_with (first
    |(go_at_call 202;refine CR.out.mono ?_;rintro e w1 ⟨ht1,⟨t,htt,rfl⟩,h1⟩;have hts:=LT.out t htt)
    |(go_at_call 162;refine (CW1.out _ h1).mono ?_;rintro e w2 ⟨ht2,h2,rfl⟩)
    |(go_at_call 163;refine (CT.out _ h2).mono ?_;rintro e w3 ⟨ht3,rfl,h3⟩))
   go_ret2
   exact⟨(ht1.trans ht2).trans ht3,Or.inr ⟨by simp,_,_,_,⟨_,rfl⟩,rfl,h3⟩⟩
 ·have CW1:Hid (∀X,RdB X rb s (p+n) k→Calls prog 162 #[.pointer (some ⟨rb,0,none⟩),.int .i64 ((n:Nat):Int)] X fun e w'=>Zaa (·=rb) X w'∧RdB w' rb s (p+n) (k+n)∧∃b:ByteArray,e=.returned (.iface 146 (.string b))):=fun X hX=>(CW.out X hX).mono fun e w' ⟨a,b,c⟩=>⟨a,b,by
   rcases c with c | ⟨_,x,⟨d,rfl⟩,c⟩
   ·omega
   ·exact⟨d,c⟩⟩
  clear CW
  go_enter func165,ntmps165
  go_wp2_with (first
   |(go_at_call 202;refine CR.out.mono ?_;rintro e w1 ⟨ht1,⟨t,htt,rfl⟩,h1⟩;have hts:=LT.out t htt)
   |(go_at_call 162;refine (CW1.out _ h1).mono ?_;rintro e w2 ⟨ht2,h2,bw,rfl⟩))
  go_ret2
  exact⟨ht1.trans ht2,Or.inr ⟨fun _=>by omega,_,_,_,⟨_,rfl⟩,rfl,h2⟩⟩
end Go.Proofs.YtliapghpeoaonaaGreatDoor
