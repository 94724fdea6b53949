/-
  The reference: a number as it is written.
-/
import Derived.Test.YtliapghpeoaonaaGreatDoorRvA
import Derived.Deep.RegionHeld3
set_option maxHeartbeats 2000000
set_option maxRecDepth 8000
namespace Go.Proofs.YtliapghpeoaonaaGreatDoor
open Go.Proofs.Tryz
open Go.RowKit Go.Lib
def dgt (d:Nat):ByteArray:=⟨#[UInt8.ofNat (48+d)]⟩
theorem Z2y (d:Nat)(h:d<10):(⟨#[48,49,50,51,52,53,54,55,56,57]⟩:ByteArray).extract d (d+1)=dgt d:=by
 have:d=0∨d=1∨d=2∨d=3∨d=4∨d=5∨d=6∨d=7∨d=8∨d=9:=by omega
 rcases this with rfl | rfl | rfl | rfl | rfl | rfl | rfl | rfl | rfl | rfl<;>rfl
theorem Zzc (z:Int)(hz:Zih z):(decDigits z.natAbs).length≤21:=by
 have:=itoa_length_le z hz.1 hz.2
 unfold itoa at this
 split at this
 ·simp at this;omega
 ·rename_i h
  rw[show z.toNat=z.natAbs by omega] at this
  exact this
theorem Zmr (u:Nat)(h:¬ u<10):decDigits u=decDigits (u / 10)++[UInt8.ofNat (48+u % 10)]:=by
 rw[decDigits,dif_neg h]
def Zzy (z K:Int)(S:ByteArray):Prop:=decDigits z.natAbs=decDigits K.natAbs++S.data.toList
theorem Zzy.len {z K:Int}{S:ByteArray}(h:Zzy z K S)(hz:Zih z):S.size≤21:=by
 have h1:=congrArg List.length h
 have h2:=Zzc z hz
 simp at h1
 omega
theorem Zzy.more {z K Q:Int}{S:ByteArray}{d:Nat}(h:Zzy z K S)(hd:K.natAbs % 10=d)(hQ:Q.natAbs=K.natAbs / 10)(hK:¬ K.natAbs<10):Zzy z Q (dgt d++S):=by
 unfold Zzy at h ⊢
 rw[h,Zmr _ hK,hQ,hd]
 simp[dgt]
theorem Zzy.last {z K:Int}{S:ByteArray}{d:Nat}(h:Zzy z K S)(hd:K.natAbs % 10=d)(hK:K.natAbs<10):decDigits z.natAbs=(dgt d++S:ByteArray).data.toList:=by
 unfold Zzy at h
 rw[h,decDigits_one hK,show K.natAbs=d by omega]
 simp[dgt]
theorem itoa_neg {z:Int}{S:ByteArray}(h:decDigits z.natAbs=S.data.toList)(hz:z<0):(⟨(itoa z).toArray⟩:ByteArray)=⟨#[45]⟩++S:=by
 unfold itoa
 rw[if_pos hz,h]
 apply ByteArray.ext
 simp
theorem itoa_pos {z:Int}{S:ByteArray}(h:decDigits z.natAbs=S.data.toList)(hz:¬ z<0):(⟨(itoa z).toArray⟩:ByteArray)=S:=by
 unfold itoa
 rw[if_neg hz,show z.toNat=z.natAbs by omega,h]
theorem Zoi (z:Int)(w:World)(hz:Zih z):
  Calls prog 33 #[.int .i64 z] w fun e w'=>e=.returned (.string ⟨(itoa z).toArray⟩)∧w'=w:=by
 have hz0:Aside (Zih z):=hz
 clear hz
 go_enter func33,ntmps33
 go_wp2
 go_loop [3,4,5] (fun s k _=>∃(K:Int) (S:ByteArray),s=.string S∧k=.int .i64 K∧Aside (Zzy z K S)∧Aside (Zih K)) (fun _ k _=>(intOf k).natAbs)
 case atStart=>exact⟨z,⟨#[]⟩,rfl,rfl,by simp[Aside,Zzy],hz0⟩
 case round =>
  obtain⟨K,S,rfl,rfl,hS,hK⟩:=hrel
  have hlen:=hS.out.len hz0.out
  obtain⟨d,hd,hd9⟩:∃d:Nat,K.natAbs % 10=d∧d<10:=⟨_,rfl,by omega⟩
  have HD:Aside (K.natAbs % 10=d):=hd
  have hx:=Z2y d hd9
  have hsz:(dgt d).size=1:=rfl
  have hta:(K.tmod 10).natAbs=d:=by rw[←hd];exact Int.natAbs_tmod K 10
  have hqa:Aside ((K.tdiv 10).natAbs=K.natAbs / 10):=Int.natAbs_tdiv K 10
  have hsg:(K.tmod 10=-(d:Int)∧0<d)∨K.tmod 10=(d:Int):=by omega
  clear hta
  by_cases hl:K.natAbs<10
  ·have hq:K.tdiv 10=0:=by rw[←Int.natAbs_eq_zero,hqa.out];omega
   have hfin:Aside (decDigits z.natAbs=(dgt d++S:ByteArray).data.toList):=hS.out.last HD.out hl
   clear hd hS HD hqa
   by_cases hzn:z<0
   ·have hres:=itoa_neg hfin.out hzn
    rcases hsg with ⟨ht,hd0⟩ | ht
    all_goals
     go_wp2
     go_ret
     exact⟨rfl,rfl⟩
   ·have hres:=itoa_pos hfin.out hzn
    rcases hsg with ⟨ht,hd0⟩ | ht
    all_goals
     go_wp2
     go_ret
     exact⟨rfl,rfl⟩
  ·have hq:(K.tdiv 10==0)=false:=by
    rw[beq_eq_false_iff_ne]
    intro e
    have:=hqa.out
    rw[e] at this
    simp at this
    omega
   have hKQ:Aside (Zih (K.tdiv 10)):=by
    have h1:=hqa.out
    have h2:=hK.out
    unfold Zih at h2
    show Zih _
    unfold Zih
    omega
   have hqw:wrap64 (K.tdiv 10)=K.tdiv 10:=by
    have h2:=hKQ.out
    unfold Zih at h2
    unfold wrap64
    omega
   have hfin:Aside (Zzy z (K.tdiv 10) (dgt d++S)):=hS.out.more HD.out hqa.out hl
   have hms:(K.tdiv 10).natAbs<K.natAbs:=by have:=hqa.out;omega
   clear hd hS HD hqa hl
   generalize hQ:K.tdiv 10=Q at *
   rcases hsg with ⟨ht,hd0⟩ | ht
   all_goals
    go_wp2
    go_round
    case rel=>exact⟨Q,_,rfl,by rw[hqw],hfin,hKQ⟩
    case measure=>simpa[intOf,hqw] using hms
end Go.Proofs.YtliapghpeoaonaaGreatDoor
namespace Go.Proofs.YtliapghpeoaonaaGreatDoor
open Go.Proofs.Tryz
open Go.RowKit Go.Lib
attribute [local go_sem ↓] Go.wp_at_zero Go.wp_at_succ
theorem Zkc {a b:ByteArray}(h:a.data.toList=b.data.toList):a=b:=by
 apply ByteArray.ext
 exact Array.ext' h
theorem Z1g {l:List PV}(h:Zha l)(q:Nat):Zha (l.take q):=Zjz fun v hv=>Zmo h v (List.mem_of_mem_take hv)
theorem wrVs_len {l:List PV}(h:Zha l):(Zgm l).length≤23*Zbh l+20:=by
 have:=Zkg (.lst l) (by rw[okV];exact h)
 rw[wrV,wtV] at this
 simp at this
 omega
theorem Zxh (v:PV):Zgm ([]++[v])=wrV v:=by rw[Zm0,if_pos rfl]
theorem Z0q {a b:ByteArray}(h:a=b):Ending.returned (.string a)=.returned (.string b):=by rw[h]
theorem Zmy (D:Nat→Prop):∀(n:Nat) (v:PV) (x:Value) (w:World),wtV v≤n→n≤1000000000→okV v→RV w D v x →
  Calls prog 12 #[x] w fun e w'=>e=.returned (.string ⟨(wrV v).toArray⟩)∧Below w.heap.size w w'
 | 0,v,x,w,h0,_,_,_=>by have:=Zf1 v;omega
 | n+1,v,x,w,hn,hm,hok,hv=>by
  have ih:=Zmy D n
  cases v with
  | num z =>
   rw[RV] at hv
   subst hv
   rw[okV] at hok
   rw[wrV]
   have cd:=fun W=>Zoi z W hok
   go_enter func12,ntmps12
   go_wp2_with (go_at_call 33;refine (cd _).mono ?_;rintro e w2 ⟨rfl,rfl⟩)
   go_ret
   exact⟨rfl,Zab w _⟩
  | txt b =>
   rw[RV] at hv
   obtain⟨s,rfl,rfl⟩:=hv
   rw[wtV] at hn
   rw[wrV]
   have hs:s.size≤1000000000:=by
    have:s.data.toList.length=s.size:=by simp
    omega
   go_enter func12,ntmps12
   go_wp2
   go_ret
   exact⟨Z0q (Zkc (by simp)),Zab w _⟩
  | lst l =>
   rw[RV] at hv
   obtain⟨sl,cs,rfl,hseg,hvs⟩:=hv
   obtain⟨ad,cap,rfl⟩:=hseg.slice
   rw[okV] at hok
   rw[wtV] at hn
   rw[wrV]
   have hl:=Zdd l
   go_enter func12,ntmps12
   go_wp2
   go_loopg [4,5] l.length (fun gh sv iv wr=>∃(q:Nat) (S:ByteArray),gh=l.length-q∧iv=.int .i64 ((q:Nat):Int)∧q≤l.length∧sv=.string S∧Aside (S.data.toList=40::Zgm (l.take q))∧Below (w.heap.size+1) (w.alloc (Zce (.int .u8 108) (.int .i64 0) (.string ⟨#[]⟩) (.slice ad l.length cap))) wr)
   case atStart=>exact⟨0,_,by omega,rfl,by omega,rfl,by simp[Aside,Zgm],Below.refl _ _⟩
   case round =>
    obtain⟨q,S,rfl,rfl,hq,rfl,hS,hbw⟩:=hrel
    have hBw:Below w.heap.size w wr:=(Zab w _).trans (hbw.mono (by simp))
    obtain⟨_,_,_,o3⟩:=Zkd hbw
    have hSl:S.size≤24000000000:=by
     have h1:=congrArg List.length hS.out
     have h2:=wrVs_len (Z1g hok q)
     have h3:=Zfy l q
     simp at h1
     omega
    by_cases hlt:q<l.length
    ·obtain⟨g,o,c',hsv,_,hc1,hc2,hcell⟩:=(hseg.below hBw).cell (by omega)
     simp only[Value.slice.injEq] at hsv
     obtain⟨rfl,_,rfl⟩:=hsv
     obtain⟨va,vb,vc,vd,e0,e1,e2,e3,hrv⟩:=(hvs.below hBw).at q hlt
     have k0:wr.cell? ⟨g,o+q*4,none⟩=some va:=by rw[hcell _ (by omega)];exact e0
     have k1:wr.cell? ⟨g,o+q*4+1,none⟩=some vb:=by rw[Nat.add_assoc,hcell _ (by omega)];exact e1
     have k2:wr.cell? ⟨g,o+q*4+2,none⟩=some vc:=by rw[Nat.add_assoc,hcell _ (by omega)];exact e2
     have k3:wr.cell? ⟨g,o+q*4+3,none⟩=some vd:=by rw[Nat.add_assoc,hcell _ (by omega)];exact e3
     have hw:=Zix l q hlt
     have hoq:=Zq8 hlt hok
     have hol:=Zkg _ hoq
     have cw:=ih l[q] (.agg #[va,vb,vc,vd]) wr (by omega) (by omega) hoq hrv
     have htk:l.take (q+1)=l.take q++[l[q]]:=List.take_succ_eq_append_getElem hlt
     have hol2:(⟨(wrV l[q]).toArray⟩:ByteArray).size≤24000000000:=by
      show (wrV l[q]).toArray.size≤_
      rw[List.size_toArray]
      omega
     have hfin:Aside (∀U:ByteArray,U.data.toList=wrV l[q]→(q=0→(S++U).data.toList=40::Zgm (l.take (q+1)))∧(0<q→(S++⟨#[32]⟩++U).data.toList=40::Zgm (l.take (q+1)))):=by
      intro U hU
      refine⟨fun h0=>?_,fun h0=>?_⟩
      ·subst h0
       rw[htk]
       simp only[List.take_zero,Zxh]
       simp[hS.out,hU,Zgm]
      ·rw[htk,Zm0,if_neg (by
        intro e
        have:=congrArg List.length e
        rw[List.length_take,List.length_nil] at this
        omega)]
       simp[hS.out,hU]
     have hU:(⟨(wrV l[q]).toArray⟩:ByteArray).data.toList=wrV l[q]:=by simp
     have hfin2:=hfin.out _ hU
     clear hfin hU hS hcell htk
     unfold maxLen at hc2
     generalize (⟨(wrV l[q]).toArray⟩:ByteArray)=U at *
     obtain⟨f1,f2⟩:=hfin2
     have F1:Aside (q=0→(S++U).data.toList=40::Zgm (l.take (q+1))):=f1
     have F2:Aside (0<q→(S++⟨#[32]⟩++U).data.toList=40::Zgm (l.take (q+1))):=f2
     clear f1 f2
     by_cases hq0:0<q
     ·go_wp2_with (go_at_call 12;refine cw.mono ?_;rintro e w2 ⟨rfl,hb2⟩)
      go_roundg (l.length-(q+1))
      all_goals first
       | omega
       | exact⟨q+1,_,rfl,by go_num,by omega,rfl,F2.out hq0,hbw.trans (hb2.mono (by have:=hbw.size;simp at this;omega))⟩
     ·go_wp2_with (go_at_call 12;refine cw.mono ?_;rintro e w2 ⟨rfl,hb2⟩)
      go_roundg (l.length-(q+1))
      all_goals first
       | omega
       | exact⟨q+1,_,rfl,by go_num,by omega,rfl,F1.out (by omega),hbw.trans (hb2.mono (by have:=hbw.size;simp at this;omega))⟩
    ·go_wp2
     go_ret
     refine⟨Z0q (Zkc ?_),hBw⟩
     have:=hS.out
     rw[List.take_of_length_le (by omega)] at this
     simp[this]
theorem Zzm        {w wr : World} {a b c d a' b' c' d' : Value} (hb : Below (w.heap.size + 2) ((w.alloc (Zce  a b c d)).alloc (Zce  a' b' c' d')) wr) : wr.cell? ⟨w.heap.size, 3, none⟩ = some d ∧ wr.cell? ⟨w.heap.size + 1, 3, none⟩ = some d' := by
  have h1 : wr.cell? ⟨w.heap.size, 3, none⟩ = ((w.alloc (Zce  a b c d)).alloc (Zce  a' b' c' d')).cell? ⟨w.heap.size, 3, none⟩ := hb.cell (p := ⟨w.heap.size, 3, none⟩) (show w.heap.size < w.heap.size + 2 by omega)
  have h2 : wr.cell? ⟨w.heap.size + 1, 3, none⟩ = ((w.alloc (Zce  a b c d)).alloc (Zce  a' b' c' d')).cell? ⟨w.heap.size + 1, 3, none⟩ := hb.cell (p := ⟨w.heap.size + 1, 3, none⟩) (show w.heap.size + 1 < w.heap.size + 2 by omega)
  rw [h1, h2]
  constructor
  · exact Zac        (by have : (w.alloc (Zce  a b c d)).heap[w.heap.size]? = some (Zce  a b c d) := heap_alloc_new _ _
                         unfold World.cell?; rw [this]; rfl)
  · have : ((w.alloc (Zce  a b c d)).alloc (Zce  a' b' c' d')).heap[w.heap.size + 1]? = some (Zce  a' b' c' d') := by
      have := heap_alloc_new (w.alloc (Zce  a b c d)) (Zce  a' b' c' d')
      simpa using this
    unfold World.cell?; rw [this]; rfl
theorem below2 (w:World)(o o':Obj):Below w.heap.size w ((w.alloc o).alloc o'):=(Zab w o).alloc (by simp) o'
theorem Zar.heap {w w':World}{D:Nat→Prop}{e:TypeId}{size:Nat}{v:Value}{n:Nat}{xs:List Value}(h:Zar w D e size v n xs)(hh:w'.heap=w.heap):Zar w' D e size v n xs:=by
 unfold Zar at h ⊢
 rw[hh]
 exact h
theorem RV.heap {w w':World}{D:Nat→Prop}{v:PV}{x:Value}(h:RV w D v x)(hh:w'.heap=w.heap):RV w' D v x:=h.map fun _ _ _ g=>g.heap hh
theorem RVs.heap {w w':World}{D:Nat→Prop}{v:List PV}{x:List Value}(h:RVs w D v x)(hh:w'.heap=w.heap):RVs w' D v x:=h.map fun _ _ _ g=>g.heap hh
theorem below_heap {B:Nat}{a w w':World}(h:Below B a w)(h1:w'.heap=w.heap)(h2:w'.os=w.os)(h3:w'.tape=w.tape)(h4:w'.output=w.output):Below B a w':=⟨h2.trans h.os,h3.trans h.tape,h4.trans h.output,by rw[h1];exact h.size,fun k hk=>by rw[h1];exact h.block k hk⟩
theorem Below.drewN_left {B:Nat}{a w:World}(h:Below B a.drew w):Below B a w:=⟨h.os,h.tape,h.output,h.size,h.block⟩
theorem Zsx {a b:Bool}(h:a=b):Ending.returned (.bool a)=.returned (.bool b):=by rw[h]
def SameDo (D:Nat→Prop)(n:Nat):Prop:=∀(a b:PV) (x y:Value) (w:World),wtV a≤n→RV w D a x→RV w D b y →
  Calls prog 130 #[x,y] w fun e w'=>e=.returned (.bool (Zcl a b))∧Below w.heap.size w w'
theorem Z0j (D:Nat→Prop){n:Nat}(ih:SameDo D n)(kd:Nat)(_hkd:kd<256)(l m:List PV)(sl sm:Value)(cs ds:List Value)(w:World)(hn:Zbh l≤n)(hm:n≤1000000000)
  (h1:Zar w D 46 4 sl l.length cs) (h2:RVs w D l cs) (h3:Zar w D 46 4 sm m.length ds) (h4:RVs w D m ds) :
  Calls prog 130 #[.agg #[.int .u8 (kd:Int),.int .i64 0,.string ⟨#[]⟩,sl],.agg #[.int .u8 (kd:Int),.int .i64 0,.string ⟨#[]⟩,sm]] w fun e w'=>e=.returned (.bool (Zch l m))∧Below w.heap.size w w':=by
 obtain⟨ad,cap,rfl⟩:=h1.slice
 obtain⟨ad2,cap2,rfl⟩:=h3.slice
 have hl:=Zdd l
 by_cases hlen:l.length=m.length
 ·have hL:Aside (l.length=m.length):=hlen
  have hI:((l.length:Int) != (m.length:Int))=false:=by rw[hlen];simp
  have hend:=Zpo l m hlen
  have HE:Aside (Zch (l.drop l.length) (m.drop l.length)=true):=hend
  clear hend hlen
  go_enter func130,ntmps130
  go_wp2
  go_loopg [5] l.length (fun gh iv wr=>∃q:Nat,gh=l.length-q∧iv=.int .i64 ((q:Nat):Int)∧q≤l.length∧Aside (Zch l m=Zch (l.drop q) (m.drop q))∧Below (w.heap.size+2) ((w.alloc (Zce (.int .u8 (kd:Int)) (.int .i64 0) (.string ⟨#[]⟩) (.slice ad l.length cap))).alloc (Zce (.int .u8 (kd:Int)) (.int .i64 0) (.string ⟨#[]⟩) (.slice ad2 m.length cap2))) wr)
  case atStart=>exact⟨0,by omega,rfl,by omega,rfl,Below.refl _ _⟩
  case round =>
   obtain⟨q,rfl,rfl,hq,hS,hbw⟩:=hrel
   have hBw:Below w.heap.size w wr:=(below2 w _ _).trans (hbw.mono (by simp))
   obtain⟨o3,p3⟩:=Zzm hbw
   by_cases hlt:q<l.length
   ·have hlt2:q<m.length:=by have:=hL.out;omega
    obtain⟨g,o,c',hsv,_,hc1,hc2,hcell⟩:=(h1.below hBw).cell (by omega)
    simp only[Value.slice.injEq] at hsv
    obtain⟨rfl,_,rfl⟩:=hsv
    obtain⟨va,vb,vc,vd,e0,e1,e2,e3,hrv⟩:=(h2.below hBw).at q hlt
    have k0:wr.cell? ⟨g,o+q*4,none⟩=some va:=by rw[hcell _ (by omega)];exact e0
    have k1:wr.cell? ⟨g,o+q*4+1,none⟩=some vb:=by rw[Nat.add_assoc,hcell _ (by omega)];exact e1
    have k2:wr.cell? ⟨g,o+q*4+2,none⟩=some vc:=by rw[Nat.add_assoc,hcell _ (by omega)];exact e2
    have k3:wr.cell? ⟨g,o+q*4+3,none⟩=some vd:=by rw[Nat.add_assoc,hcell _ (by omega)];exact e3
    obtain⟨g2,o2,c2',hsv2,_,hd1,hd2,hcell2⟩:=(h3.below hBw).cell (by omega)
    simp only[Value.slice.injEq] at hsv2
    obtain⟨rfl,_,rfl⟩:=hsv2
    obtain⟨ua,ub,uc,ud,f0,f1,f2,f3,hru⟩:=(h4.below hBw).at q hlt2
    have j0:wr.cell? ⟨g2,o2+q*4,none⟩=some ua:=by rw[hcell2 _ (by omega)];exact f0
    have j1:wr.cell? ⟨g2,o2+q*4+1,none⟩=some ub:=by rw[Nat.add_assoc,hcell2 _ (by omega)];exact f1
    have j2:wr.cell? ⟨g2,o2+q*4+2,none⟩=some uc:=by rw[Nat.add_assoc,hcell2 _ (by omega)];exact f2
    have j3:wr.cell? ⟨g2,o2+q*4+3,none⟩=some ud:=by rw[Nat.add_assoc,hcell2 _ (by omega)];exact f3
    have hw:=Zix l q hlt
    have hdr:=Znm l m q hlt hlt2
    have HDR:Aside (Zch l m=(Zcl l[q] m[q]&&Zch (l.drop (q+1)) (m.drop (q+1)))):=by show _=_;rw[hS.out,hdr]
    have cw:∀X,X.heap=wr.heap→Calls prog 130 #[.agg #[va,vb,vc,vd],.agg #[ua,ub,uc,ud]] X fun e w'=>e=.returned (.bool (Zcl l[q] m[q]))∧Below X.heap.size X w':=fun X hX=>ih _ _ _ _ X (by omega) (hrv.heap hX) (hru.heap hX)
    clear hS hdr hcell hcell2 e0 e1 e2 e3 f0 f1 f2 f3
    unfold maxLen at hc2 hd2
    have hi1:((q:Nat):Int)<((l.length:Nat):Int):=by omega
    have hi2:((q:Nat):Int)<((m.length:Nat):Int):=by omega
    have hii:((q:Nat):Int) ≥ 0:=by omega
    generalize Zcl l[q] m[q]=R at *
    cases R with
    | true =>
     go_wp2_with fail
     go_region_held3 (fun w'=>w'.cell? ⟨w.heap.size,3,none⟩=some (.slice (some ⟨g,o,none⟩) l.length cap)∧w'.cell? ⟨w.heap.size+1,3,none⟩=some (.slice (some ⟨g2,o2,none⟩) m.length cap2)∧w'.cell? ⟨g,o+q*4,none⟩=some va∧w'.cell? ⟨g,o+q*4+1,none⟩=some vb∧w'.cell? ⟨g,o+q*4+2,none⟩=some vc∧w'.cell? ⟨g,o+q*4+3,none⟩=some vd∧w'.cell? ⟨g2,o2+q*4,none⟩=some ua∧w'.cell? ⟨g2,o2+q*4+1,none⟩=some ub∧w'.cell? ⟨g2,o2+q*4+2,none⟩=some uc∧w'.cell? ⟨g2,o2+q*4+3,none⟩=some ud) (first | go_keep | exact⟨Below.cellv hb2 o3,Below.cellv hb2 p3,Below.cellv hb2 k0,Below.cellv hb2 k1,Below.cellv hb2 k2,Below.cellv hb2 k3,Below.cellv hb2 j0,Below.cellv hb2 j1,Below.cellv hb2 j2,Below.cellv hb2 j3⟩) ((go_at_call 130;refine (cw _ (by exact rfl)).mono ?_;rintro e w2 ⟨rfl,hb2⟩))
     go_wp2
     go_roundg (l.length-(q+1))
     all_goals first
      | omega
      | exact⟨q+1,rfl,by go_num,by omega,by show _=_;rw[HDR.out,Bool.true_and],hbw.trans ((Below.drewN_left hb2).mono (by have:=hbw.size;have e:wr.drew.heap.size=wr.heap.size:=rfl;simp at this;omega))⟩
    | false =>
     go_wp2_with fail
     go_region_held3 (fun w'=>w'.cell? ⟨w.heap.size,3,none⟩=some (.slice (some ⟨g,o,none⟩) l.length cap)∧w'.cell? ⟨w.heap.size+1,3,none⟩=some (.slice (some ⟨g2,o2,none⟩) m.length cap2)∧w'.cell? ⟨g,o+q*4,none⟩=some va∧w'.cell? ⟨g,o+q*4+1,none⟩=some vb∧w'.cell? ⟨g,o+q*4+2,none⟩=some vc∧w'.cell? ⟨g,o+q*4+3,none⟩=some vd∧w'.cell? ⟨g2,o2+q*4,none⟩=some ua∧w'.cell? ⟨g2,o2+q*4+1,none⟩=some ub∧w'.cell? ⟨g2,o2+q*4+2,none⟩=some uc∧w'.cell? ⟨g2,o2+q*4+3,none⟩=some ud) (first | go_keep | exact⟨Below.cellv hb2 o3,Below.cellv hb2 p3,Below.cellv hb2 k0,Below.cellv hb2 k1,Below.cellv hb2 k2,Below.cellv hb2 k3,Below.cellv hb2 j0,Below.cellv hb2 j1,Below.cellv hb2 j2,Below.cellv hb2 j3⟩) ((go_at_call 130;refine (cw _ (by exact rfl)).mono ?_;rintro e w2 ⟨rfl,hb2⟩))
     go_wp2
     go_ret
     exact⟨Zsx (by rw[HDR.out,Bool.false_and]),hBw.trans ((Below.drewN_left hb2).mono hBw.size)⟩
   ·go_wp2
    go_ret
    refine⟨Zsx (Eq.symm ?_),hBw⟩
    rw[hS.out,show q=l.length by omega]
    exact HE.out
 ·have hI:((l.length:Int) != (m.length:Int))=true:=by rw[bne_iff_ne];omega
  have hres:Zch l m=false:=by
   cases h:Zch l m with
   | false=>rfl
   | true=>exact absurd (Zkv l m h) hlen
  rw[hres]
  clear hlen hres
  go_enter func130,ntmps130
  go_wp2
  go_ret
  exact⟨rfl,below2 w _ _⟩
theorem Zwf (D:Nat→Prop):∀(n:Nat),n≤1000000000→SameDo D n
 | 0,_,a,b,x,y,w,h0,_,_=>by have:=Zf1 a;omega
 | n+1,hm,a,b,x,y,w,hn,hx,hy=>by
  have ih:=Zwf D n (by omega)
  cases a with
  | num z =>
   rw[RV] at hx
   subst hx
   cases b with
   | num u =>
    rw[RV] at hy
    subst hy
    rw[Zcl]
    cases hzu:(z==u) with
    | true =>
     have hI:(z != u)=false:=by rw[bne,hzu];rfl
     go_enter func130,ntmps130
     go_wp2
     go_loop [5] (fun i=>i=.int .i64 0) (fun _=>0)
     case atStart=>rfl
     case round =>
      subst hrel
      go_wp2
      go_ret
      exact⟨rfl,below2 w _ _⟩
    | false =>
     have hI:(z != u)=true:=by rw[bne,hzu];rfl
     go_enter func130,ntmps130
     go_wp2
     go_ret
     exact⟨rfl,below2 w _ _⟩
   | txt u =>
    rw[RV] at hy
    obtain⟨t,_,rfl⟩:=hy
    rw[show Zcl (.num z) (.txt u)=false by simp[Zcl]]
    go_enter func130,ntmps130
    go_wp2
    go_ret
    exact⟨rfl,below2 w _ _⟩
   | lst u =>
    rw[RV] at hy
    obtain⟨sl,cs,rfl,h2,_⟩:=hy
    obtain⟨ad,cap,rfl⟩:=h2.slice
    rw[show Zcl (.num z) (.lst u)=false by simp[Zcl]]
    go_enter func130,ntmps130
    go_wp2
    go_ret
    exact⟨rfl,below2 w _ _⟩
  | txt z =>
   rw[RV] at hx
   obtain⟨s,rfl,rfl⟩:=hx
   cases b with
   | num u =>
    rw[RV] at hy
    subst hy
    rw[show Zcl (.txt s.data.toList) (.num u)=false by simp[Zcl]]
    go_enter func130,ntmps130
    go_wp2
    go_ret
    exact⟨rfl,below2 w _ _⟩
   | txt u =>
    rw[RV] at hy
    obtain⟨t,rfl,rfl⟩:=hy
    rw[Zcl]
    rw[←ByteArray.toList_eq,←ByteArray.toList_eq]
    cases hzu:(s.toList==t.toList) with
    | true =>
     have hI:(s.toList != t.toList)=false:=by rw[bne,hzu];rfl
     go_enter func130,ntmps130
     go_wp2
     go_loop [5] (fun i=>i=.int .i64 0) (fun _=>0)
     case atStart=>rfl
     case round =>
      subst hrel
      go_wp2
      go_ret
      exact⟨rfl,below2 w _ _⟩
    | false =>
     have hI:(s.toList != t.toList)=true:=by rw[bne,hzu];rfl
     go_enter func130,ntmps130
     go_wp2
     go_ret
     exact⟨rfl,below2 w _ _⟩
   | lst u =>
    rw[RV] at hy
    obtain⟨sl,cs,rfl,h2,_⟩:=hy
    obtain⟨ad,cap,rfl⟩:=h2.slice
    rw[show Zcl (.txt s.data.toList) (.lst u)=false by simp[Zcl]]
    go_enter func130,ntmps130
    go_wp2
    go_ret
    exact⟨rfl,below2 w _ _⟩
  | lst l =>
   cases b with
   | num u =>
    rw[RV] at hx
    rw[RV] at hy
    subst hy
    obtain⟨sl,cs,rfl,h2,_⟩:=hx
    obtain⟨ad,cap,rfl⟩:=h2.slice
    rw[show Zcl (.lst l) (.num u)=false by simp[Zcl]]
    go_enter func130,ntmps130
    go_wp2
    go_ret
    exact⟨rfl,below2 w _ _⟩
   | txt u =>
    rw[RV] at hx
    rw[RV] at hy
    obtain⟨t,rfl,rfl⟩:=hy
    obtain⟨sl,cs,rfl,h2,_⟩:=hx
    obtain⟨ad,cap,rfl⟩:=h2.slice
    rw[show Zcl (.lst l) (.txt t.data.toList)=false by simp[Zcl]]
    go_enter func130,ntmps130
    go_wp2
    go_ret
    exact⟨rfl,below2 w _ _⟩
   | lst m =>
    rw[RV] at hx hy
    obtain⟨sl,cs,rfl,h1,h2⟩:=hx
    obtain⟨sm,ds,rfl,h3,h4⟩:=hy
    rw[wtV] at hn
    rw[Zcl]
    exact Z0j D ih 108 (by decide) l m sl sm cs ds w (by omega) (by omega) h1 h2 h3 h4
theorem Zis (l:List UInt8)(c:UInt8):Zam (l++[c])=10*Zam l+((c.toNat:Int)-48):=by simp[Zam]
theorem Zoh (d:Nat)(h:d<10):(UInt8.ofNat (48+d)).toNat=48+d:=by
 rw[UInt8.toNat_ofNat_of_lt']
 show 48+d<256
 omega
theorem Zkb (u:Nat):Zam (decDigits u)=u:=by
 induction u using Nat.strongRecOn with
 | _ u ih =>
  by_cases h:u<10
  ·rw[decDigits_one h]
   simp only[Zam,List.foldl_cons,List.foldl_nil,Zoh u h]
   omega
  ·rw[Zmr u h,Zis,ih (u / 10) (by omega),Zoh (u % 10) (by omega)]
   omega
theorem Zo7 (u:Nat):Zad 45 (decDigits u)=false:=by
 induction u using Nat.strongRecOn with
 | _ u ih =>
  by_cases h:u<10
  ·rw[decDigits_one h]
   simp only[Zad,List.getElem?_cons_zero,beq_eq_false_iff_ne,ne_eq,Option.some.injEq]
   intro e
   have:=congrArg UInt8.toNat e
   rw[Zoh u h] at this
   have e45:(45:UInt8).toNat=45:=rfl
   omega
  ·rw[Zmr u h]
   have:=ih (u / 10) (by omega)
   cases hq:decDigits (u / 10) with
   | nil =>
    have:=decDigits_length (u / 10)
    have hp:0<nDigits (u / 10):=by rw[nDigits];split<;>omega
    rw[hq] at this
    simp at this
    omega
   | cons a r=>rw[hq] at this;simpa[Zad] using this
theorem Zvh (z:Int):Zbb (itoa z)=z:=by
 unfold itoa
 split
 ·unfold Zbb
  simp only[Zad,List.getElem?_cons_zero,beq_self_eq_true,if_true,List.drop_succ_cons,List.drop_zero,Zkb]
  omega
 ·unfold Zbb
  rw[Zo7]
  simp only[Bool.false_eq_true,if_false,Zkb]
  omega
theorem Z2z:∀(k u:Nat),u<10 ^ (k+1)→(decDigits u).length≤k+1
 | 0,u,h=>by rw[decDigits_one (by simpa using h)];simp
 | k+1,u,h=>by
  by_cases h10:u<10
  ·rw[decDigits_one h10];simp
  ·rw[Zmr u h10]
   have:=Z2z k (u / 10) (by
    rw[Nat.pow_succ] at h
    omega)
   simp
   omega
theorem Zy1 {z:Int}(h:Zih z):(itoa z).length≤20:=by
 unfold Zih at h
 have h1:=Z2z 18 z.natAbs (by
  show z.natAbs<10000000000000000000
  omega)
 unfold itoa
 split
 ·simp;omega
 ·rw[show z.toNat=z.natAbs by omega];omega
theorem Zyj (l:List UInt8):(Zfm l).isSome=((itoa (wrap64 (Zbb l)))==l)∧∀u,Zfm l=some u→wrap64 (Zbb l)=u:=by
 have hw:Zih (Zbb l)→wrap64 (Zbb l)=Zbb l:=fun h=>by unfold Zih at h;unfold wrap64;omega
 constructor
 ·unfold Zfm
  split
  ·rename_i g
   rw[hw g.2]
   simp[g.1]
  ·rename_i g
   symm
   simp only[Option.isSome_none,beq_eq_false_iff_ne,ne_eq]
   intro e
   have h1:Zbb l=wrap64 (Zbb l):=by
    have:=congrArg Zbb e
    rw[Zvh] at this
    exact this.symm
   have h2:Zih (Zbb l):=by rw[h1];exact Zmz _
   rw[hw h2] at e
   exact g ⟨e,h2⟩
 ·intro u hu
  obtain⟨_,h2,h3⟩:=Zkz hu
  rw[h3] at h2 ⊢
  exact hw h2
theorem Z1k {l:List UInt8}(h:20<l.length):Zfm l=none:=by
 cases g:Zfm l with
 | none=>rfl
 | some z =>
  obtain⟨h1,h2,_⟩:=Zkz g
  have:=Zy1 h2
  rw[h1] at this
  omega
theorem Zsd (a d:Int):wrap64 (wrap64 (10*wrap64 (-a))-d)=wrap64 (-(10*a+d)):=by unfold wrap64;omega
theorem wrap_neg (a:Int):wrap64 (-wrap64 (-a))=wrap64 a:=by unfold wrap64;omega
theorem Zph (l:List UInt8)(k:Nat)(h:k<l.length):Zam (l.take (k+1))=10*Zam (l.take k)+((l[k].toNat:Int)-48):=by
 rw[List.take_succ_eq_append_getElem h,Zis]
theorem ret_nb {a b:Int}{p q:Bool}(h1:a=b)(h2:p=q):Ending.returned (.tuple #[.int .i64 a,.bool p])=.returned (.tuple #[.int .i64 b,.bool q]):=by rw[h1,h2]
theorem Zxk {s:ByteArray}(h:Zad 45 s.data.toList=true):Zaj s.data.toList=s.data.toList.drop 1∧Zbb s.data.toList=-Zam (s.data.toList.drop 1):=by
 unfold Zaj Zbb;rw[h];simp
theorem Zun {s:ByteArray}(h:Zad 45 s.data.toList=false):Zaj s.data.toList=s.data.toList∧Zbb s.data.toList=Zam s.data.toList:=by
 unfold Zaj Zbb;rw[h];simp
theorem Zni {s:ByteArray}{c:UInt8}(h:0<s.size):Zad c s.data.toList=(((s[0].toNat:Nat):Int)==(c.toNat:Int)):=by
 have:s.data.toList[0]?=some s[0]:=by
  rw[List.getElem?_eq_getElem (by simpa using h)]
  rfl
 rw[Zad,this,Bool.eq_iff_iff]
 simp only[beq_iff_eq,Option.some.injEq,←UInt8.toNat_inj]
 omega
theorem Zvg (s:ByteArray)(w:World)(hs:s.size≤20)(hd:∀c∈Zaj s.data.toList,Zav c=true):
  Calls prog 117 #[.string s] w fun e w'=>(∃z:Int,e=.returned (.tuple #[.int .i64 z,.bool (Zfm s.data.toList).isSome])∧∀u,Zfm s.data.toList=some u→z=u)∧w'=w:=by
 obtain⟨hn1,hn2⟩:=Zyj s.data.toList
 have cd:=fun W=>Zoi (wrap64 (Zbb s.data.toList)) W (Zmz _)
 have hfin:Aside (((itoa (wrap64 (Zbb s.data.toList))==s.toList)=(Zfm s.data.toList).isSome)∧∀u,Zfm s.data.toList=some u→wrap64 (Zbb s.data.toList)=u):=by
  refine⟨?_,hn2⟩
  rw[hn1,ByteArray.toList_eq]
 clear hn1 hn2
 cases hst:Zad 45 s.data.toList with
 | true =>
  obtain⟨hu1,hu2⟩:=Zxk hst
  rw[hu1] at hd
  have h0:0<s.size:=by
   rcases Nat.eq_zero_or_pos s.size with h | h
   ·have:s.data.toList=[]:=List.eq_nil_of_length_eq_zero (by simpa using h)
    rw[this] at hst
    simp[Zad] at hst
   ·exact h
  rw[Zni h0] at hst
  have hst2:(((s[0].toNat:Nat):Int)==45)=true:=hst
  clear hst
  have hTl:(s.data.toList.drop 1).length=s.size-1:=by simp
  have HT:Aside (∀k (h1:1≤k) (h2:k<s.size) (h3:k-1<(s.data.toList.drop 1).length),(s.data.toList.drop 1)[k-1]'h3=s[k]):=by
   intro k h1 h2 h3
   rw[List.getElem_drop]
   simp only[show 1+(k-1)=k by omega]
   rfl
  rw[hu2] at cd hfin
  generalize s.data.toList.drop 1=T at *
  have HD:Aside (∀c∈T,Zav c=true):=hd
  have HTL:Aside (T.length=s.size-1):=hTl
  clear hu1 hu2 hd hTl
  generalize hR:(Zfm s.data.toList).isSome=R at *
  go_enter func117,ntmps117
  go_wp2_with fail
  go_loop [4,7] (fun n i=>∃k:Nat,1≤k∧k≤s.size∧i=.int .i64 k∧n=.int .i64 (wrap64 (-Zam (T.take (k-1))))) (fun _ i=>s.size-(intOf i).toNat)
  case atStart=>exact⟨1,by omega,by omega,rfl,by simp[Zam,wrap64]⟩
  case round =>
   obtain⟨k,hk1,hk,rfl,rfl⟩:=hrel
   by_cases hlt:k<s.size
   ·have hl:k-1<T.length:=by have:=HTL.out;omega
    have hsn:=Zph T (k-1) hl
    have hel:=HT.out k hk1 hlt hl
    rw[hel,show k-1+1=k+1-1 by omega] at hsn
    have hdk:=HD.out s[k] (by rw[←hel];exact List.getElem_mem _)
    simp[Zav,UInt8.le_iff_toNat_le] at hdk
    have hb1:(48:Int)≤(s[k].toNat:Int):=by omega
    have hb2:(s[k].toNat:Int)≤57:=by omega
    have HS:Aside (Zam (T.take (k+1-1))=10*Zam (T.take (k-1))+((s[k].toNat:Int)-48)):=hsn
    clear hsn hel hdk
    go_wp2
    go_round
    case rel=>exact⟨k+1,by omega,by omega,by go_num,by rw[HS.out,←Zsd]⟩
    case measure=>simp[intOf];omega
   ·have hTT:T.take (k-1)=T:=List.take_of_length_le (by have:=HTL.out;omega)
    have hfin1:=hfin.out.1
    go_wp2_with (go_at_call 33;refine (cd _).mono ?_;rintro e w2 ⟨rfl,rfl⟩)
    go_ret2
    exact⟨⟨_,rfl,hfin.out.2⟩,rfl⟩
 | false =>
  obtain⟨hu1,hu2⟩:=Zun hst
  rw[hu1] at hd
  have hTl:s.data.toList.length=s.size:=by simp
  have HT:Aside (∀k (h2:k<s.size),s.data.toList[k]?=some s[k]):=fun k h2=>by rw[List.getElem?_eq_getElem (by simpa using h2)];rfl
  rw[hu2] at cd hfin
  have hst3:∀h:0<s.size,(((s[0].toNat:Nat):Int)==45)=false:=fun h=>by rw[Zni h] at hst;exact hst
  clear hst
  have hte:s.toList=s.data.toList:=ByteArray.toList_eq s
  have hcases:s.size=0∨∃h:0<s.size,(((s[0].toNat:Nat):Int)==45)=false:=by
   rcases Nat.eq_zero_or_pos s.size with h | h
   ·exact Or.inl h
   ·exact Or.inr ⟨h,hst3 h⟩
  clear hst3 hte
  obtain⟨T,hT⟩:∃T,T=s.data.toList:=⟨_,rfl⟩
  rw[←hT] at hd cd hfin hTl HT ⊢
  have HD:Aside (∀c∈T,Zav c=true):=hd
  have HTL:Aside (T.length=s.size):=hTl
  clear hu1 hu2 hd hTl hT
  generalize hR:(Zfm T).isSome=R at *
  rcases hcases with h0 | ⟨h0,hst2⟩
  all_goals
   go_enter func117,ntmps117
   go_wp2_with fail
   go_loop [4,7] (fun n i=>∃k:Nat,k≤s.size∧i=.int .i64 k∧n=.int .i64 (wrap64 (-Zam (T.take k)))) (fun _ i=>s.size-(intOf i).toNat)
   case atStart=>exact⟨0,by omega,rfl,by simp[Zam,wrap64]⟩
   case round =>
    obtain⟨k,hk,rfl,rfl⟩:=hrel
    by_cases hlt:k<s.size
    ·try omega
     all_goals
      have hl:k<T.length:=by have:=HTL.out;omega
      have hsn:=Zph T k hl
      have hel:T[k]'hl=s[k]:=Option.some.inj ((List.getElem?_eq_getElem hl).symm.trans (HT.out k hlt))
      rw[hel] at hsn
      have hdk:=HD.out s[k] (by rw[←hel];exact List.getElem_mem _)
      simp[Zav,UInt8.le_iff_toNat_le] at hdk
      have hb1:(48:Int)≤(s[k].toNat:Int):=by omega
      have hb2:(s[k].toNat:Int)≤57:=by omega
      have HS:Aside (Zam (T.take (k+1))=10*Zam (T.take k)+((s[k].toNat:Int)-48)):=hsn
      clear hsn hel hdk
      go_wp2
      go_round
      case rel=>exact⟨k+1,by omega,by go_num,by rw[HS.out,←Zsd]⟩
      case measure=>simp[intOf];omega
    ·have hTT:T.take k=T:=List.take_of_length_le (by have:=HTL.out;omega)
     have hfin1:=hfin.out.1
     have hwn:=wrap_neg (Zam T)
     go_wp2_with (go_at_call 33;refine (cd _).mono ?_;rintro e w2 ⟨rfl,rfl⟩)
     go_ret2
     exact⟨⟨_,rfl,hfin.out.2⟩,rfl⟩
end Go.Proofs.YtliapghpeoaonaaGreatDoor
