/-
  The reference: run.
-/
import Derived.Test.YtliapghpeoaonaaGreatDoorTokA
import Derived.Test.YtliapghpeoaonaaGreatDoorTouch
import Derived.Deep.LoopGhost
import Derived.Deep.DeepCutAuto
import Derived.Deep.DrawnRows
set_option maxHeartbeats 8000000
set_option maxRecDepth 8000
namespace Go.Proofs.YtliapghpeoaonaaGreatDoor
open Go.Proofs.Tryz
open Go.RowKit
theorem Znn (p:UInt8→Bool)(l:List UInt8)(a n:Nat)(h:a+n<l.length)(ht:∀j,j<n→∀hj:a+j<l.length,p (l[a+j]'hj)=true)(hf:p (l[a+n]'h)=false):Zbd p (l.drop a)=n:=by
 refine Zkw p _ n (by simp;omega) (fun j hj=>?_) ?_
 ·rw[List.getElem_drop];exact ht j hj _
 ·rw[List.getElem_drop];exact hf
theorem Zu0 (p:UInt8→Bool)(l:List UInt8)(a n:Nat)(h:a+n=l.length)(ht:∀j,j<n→∀hj:a+j<l.length,p (l[a+j]'hj)=true):Zbd p (l.drop a)=n:=by
 have:=Zhz p (l.drop a) (fun j hj=>by rw[List.getElem_drop];exact ht j (by simp at hj;omega) _)
 rw[this]
 simp
 omega
theorem rrun_1 (s:ByteArray)(a:Nat)(w:World)(hs:s.size≤maxLen)(ha:a≤s.size):
  Calls prog 88 #[.string s,.int .i64 ((a:Nat):Int),.int .i64 1] w fun e w'=>e=.returned (.int .i64 (Zbd Zbp (s.data.toList.drop a)))∧w'=w:=by
 unfold maxLen at hs
 go_enter func88,ntmps88
 go_wp2
 go_loop [7] (fun i=>∃k:Nat,a+k≤s.size∧i=.int .i64 k∧Hid (∀j,j<k→∀hj:a+j<s.data.toList.length,Zbp (s.data.toList[a+j]'hj)=true)) (fun i=>s.size-(intOf i).toNat)
 case atStart=>exact⟨0,by omega,rfl,fun j hj _=>absurd hj (by omega)⟩
 case round =>
  obtain⟨k,hk,rfl,hall⟩:=hrel
  by_cases hlt:a+k<s.size
  ·have hl:a+k<s.data.toList.length:=by simpa using hlt
   cases hp:Zbp s[a+k]
   ·go_wp2_with (first
     |(go_at_call 95;refine (Zbo s[a+k] _).mono ?_;rintro e w' ⟨rfl,rfl⟩)
     |(go_at_call 96;refine (Zbz s[a+k] _).mono ?_;rintro e w' ⟨rfl,rfl⟩)
     |(go_at_call 137;refine (Zgi s[a+k] _).mono ?_;rintro e w' ⟨rfl,rfl⟩))
    go_ret
    exact⟨Zd6 (by rw[Znn Zbp s.data.toList a k hl hall.out hp]),rfl⟩
   ·go_wp2_with (first
     |(go_at_call 95;refine (Zbo s[a+k] _).mono ?_;rintro e w' ⟨rfl,rfl⟩)
     |(go_at_call 96;refine (Zbz s[a+k] _).mono ?_;rintro e w' ⟨rfl,rfl⟩)
     |(go_at_call 137;refine (Zgi s[a+k] _).mono ?_;rintro e w' ⟨rfl,rfl⟩))
    go_round
    case rel =>
     refine⟨k+1,by omega,by go_num,fun j hj h2=>?_⟩
     by_cases e:j=k
     ·subst e;exact hp
     ·exact hall.out j (by omega) h2
    case measure=>simp[intOf];omega
  ·go_wp2
   go_ret
   exact⟨Zd6 (by rw[Zu0 Zbp s.data.toList a k (by simp;omega) hall.out]),rfl⟩
theorem Z0l (s:ByteArray)(a:Nat)(w:World)(hs:s.size≤maxLen)(ha:a≤s.size):
  Calls prog 88 #[.string s,.int .i64 ((a:Nat):Int),.int .i64 2] w fun e w'=>e=.returned (.int .i64 (Zbd Zav (s.data.toList.drop a)))∧w'=w:=by
 unfold maxLen at hs
 go_enter func88,ntmps88
 go_wp2
 go_loop [7] (fun i=>∃k:Nat,a+k≤s.size∧i=.int .i64 k∧Hid (∀j,j<k→∀hj:a+j<s.data.toList.length,Zav (s.data.toList[a+j]'hj)=true)) (fun i=>s.size-(intOf i).toNat)
 case atStart=>exact⟨0,by omega,rfl,fun j hj _=>absurd hj (by omega)⟩
 case round =>
  obtain⟨k,hk,rfl,hall⟩:=hrel
  by_cases hlt:a+k<s.size
  ·have hl:a+k<s.data.toList.length:=by simpa using hlt
   cases hp:Zav s[a+k]
   ·go_wp2_with (first
     |(go_at_call 95;refine (Zbo s[a+k] _).mono ?_;rintro e w' ⟨rfl,rfl⟩)
     |(go_at_call 96;refine (Zbz s[a+k] _).mono ?_;rintro e w' ⟨rfl,rfl⟩)
     |(go_at_call 137;refine (Zgi s[a+k] _).mono ?_;rintro e w' ⟨rfl,rfl⟩))
    go_ret
    exact⟨Zd6 (by rw[Znn Zav s.data.toList a k hl hall.out hp]),rfl⟩
   ·go_wp2_with (first
     |(go_at_call 95;refine (Zbo s[a+k] _).mono ?_;rintro e w' ⟨rfl,rfl⟩)
     |(go_at_call 96;refine (Zbz s[a+k] _).mono ?_;rintro e w' ⟨rfl,rfl⟩)
     |(go_at_call 137;refine (Zgi s[a+k] _).mono ?_;rintro e w' ⟨rfl,rfl⟩))
    go_round
    case rel =>
     refine⟨k+1,by omega,by go_num,fun j hj h2=>?_⟩
     by_cases e:j=k
     ·subst e;exact hp
     ·exact hall.out j (by omega) h2
    case measure=>simp[intOf];omega
  ·go_wp2
   go_ret
   exact⟨Zd6 (by rw[Zu0 Zav s.data.toList a k (by simp;omega) hall.out]),rfl⟩
theorem rrun_3 (s:ByteArray)(a:Nat)(w:World)(hs:s.size≤maxLen)(ha:a≤s.size):
  Calls prog 88 #[.string s,.int .i64 ((a:Nat):Int),.int .i64 3] w fun e w'=>e=.returned (.int .i64 (Zbd Zc0 (s.data.toList.drop a)))∧w'=w:=by
 unfold maxLen at hs
 go_enter func88,ntmps88
 go_wp2
 go_loop [7] (fun i=>∃k:Nat,a+k≤s.size∧i=.int .i64 k∧Hid (∀j,j<k→∀hj:a+j<s.data.toList.length,Zc0 (s.data.toList[a+j]'hj)=true)) (fun i=>s.size-(intOf i).toNat)
 case atStart=>exact⟨0,by omega,rfl,fun j hj _=>absurd hj (by omega)⟩
 case round =>
  obtain⟨k,hk,rfl,hall⟩:=hrel
  by_cases hlt:a+k<s.size
  ·have hl:a+k<s.data.toList.length:=by simpa using hlt
   cases hp:Zc0 s[a+k]
   ·go_wp2_with (first
     |(go_at_call 95;refine (Zbo s[a+k] _).mono ?_;rintro e w' ⟨rfl,rfl⟩)
     |(go_at_call 96;refine (Zbz s[a+k] _).mono ?_;rintro e w' ⟨rfl,rfl⟩)
     |(go_at_call 137;refine (Zgi s[a+k] _).mono ?_;rintro e w' ⟨rfl,rfl⟩))
    go_ret
    exact⟨Zd6 (by rw[Znn Zc0 s.data.toList a k hl hall.out hp]),rfl⟩
   ·go_wp2_with (first
     |(go_at_call 95;refine (Zbo s[a+k] _).mono ?_;rintro e w' ⟨rfl,rfl⟩)
     |(go_at_call 96;refine (Zbz s[a+k] _).mono ?_;rintro e w' ⟨rfl,rfl⟩)
     |(go_at_call 137;refine (Zgi s[a+k] _).mono ?_;rintro e w' ⟨rfl,rfl⟩))
    go_round
    case rel =>
     refine⟨k+1,by omega,by go_num,fun j hj h2=>?_⟩
     by_cases e:j=k
     ·subst e;exact hp
     ·exact hall.out j (by omega) h2
    case measure=>simp[intOf];omega
  ·go_wp2
   go_ret
   exact⟨Zd6 (by rw[Zu0 Zc0 s.data.toList a k (by simp;omega) hall.out]),rfl⟩
end Go.Proofs.YtliapghpeoaonaaGreatDoor
namespace Go.Proofs.YtliapghpeoaonaaGreatDoor
open Go.Proofs.Tryz
theorem Zj4 (s:ByteArray):s.data.toList.length=s.size:=Array.length_toList
theorem Zfo {s:List UInt8}{i:Nat}(hi:i<s.length)(hb:blank s[i]=false){k:K}{n:Nat}(hm:Zal (s.drop i)=(k,n)):Zah s i=⟨k,i,(s.drop i).take n⟩:=by
 rw[Zlt s i (fun _=>hb),hm]
theorem meas_opn {s:List UInt8}{i:Nat}(hi:i<s.length)(h:s[i]=40):Zal (s.drop i)=(.opn,1):=by
 rw[List.drop_eq_getElem_cons hi,h];simp[Zal]
theorem meas_cls {s:List UInt8}{i:Nat}(hi:i<s.length)(h:s[i]=41):Zal (s.drop i)=(.cls,1):=by
 rw[List.drop_eq_getElem_cons hi,h];simp[Zal]
theorem Zk2 {c:UInt8}(h:Zbp c=true):(c==40)=false∧(c==41)=false∧(c==39)=false∧(c==45)=false∧Zav c=false:=by
 rw[Zh6] at h
 have hd:¬ Zav c=true:=by rw[Zfq];omega
 refine⟨?_,?_,?_,?_,by simpa using hd⟩<;>(simp[←UInt8.toNat_inj];omega)
theorem Z2x {c:UInt8}(h:Zav c=true):(c==40)=false∧(c==41)=false∧(c==39)=false∧(c==45)=false∧Zbp c=false:=by
 rw[Zfq] at h
 have hd:¬ Zbp c=true:=by rw[Zh6];omega
 refine⟨?_,?_,?_,?_,by simpa using hd⟩<;>(simp[←UInt8.toNat_inj];omega)
theorem Z10 {s:List UInt8}{i:Nat}(hi:i<s.length)(h:Zbp s[i]=true):Zal (s.drop i)=if 8<Zbd Zbp (s.drop i) then (.bad,0) else (.word,Zbd Zbp (s.drop i)):=by
 obtain⟨a,b,c,d,e⟩:=Zk2 h
 have q:s.drop i=s[i]::s.drop (i+1):=List.drop_eq_getElem_cons hi
 rw[show Zal (s.drop i)=Zb6 .word (Zic (s.drop i)) by rw[q];simp[Zal,a,b,c,d,e,h]]
 unfold Zic
 split<;>rfl
theorem Zyu {s:List UInt8}{i:Nat}(hi:i<s.length)(h:Zav s[i]=true):Zal (s.drop i)=if 9<Zbd Zav (s.drop i) then (.bad,0) else (.num,Zbd Zav (s.drop i)):=by
 obtain⟨a,b,c,d,e⟩:=Z2x h
 have q:s.drop i=s[i]::s.drop (i+1):=List.drop_eq_getElem_cons hi
 have hu:Zaj (s.drop i)=s.drop i:=by
  unfold Zaj
  rw[show Zad 45 (s.drop i)=false by rw[q];generalize s[i]=c at d;simpa[Zad] using d]
  rfl
 have hr:0<Zbd Zav (s.drop i):=by rw[q,Zb1 Zav _ _ h];omega
 rw[show Zal (s.drop i)=Zb6 .num (Znx (s.drop i)) by rw[q];simp[Zal,a,b,c,h]]
 unfold Znx
 rw[hu]
 by_cases h9:9<Zbd Zav (s.drop i)
 ·simp[h9,Zb6]
 ·rw[if_neg (by omega),if_neg h9]
  simp[Zb6]
theorem Zyt {s:List UInt8}{i:Nat}(hi:i<s.length)(h:s[i]=45):Zal (s.drop i)=if Zbd Zav (s.drop (i+1))=0∨9<Zbd Zav (s.drop (i+1)) then (.bad,0) else (.num,1+Zbd Zav (s.drop (i+1))):=by
 have q:s.drop i=45::s.drop (i+1):=by rw[List.drop_eq_getElem_cons hi,h]
 have hu:Zaj (s.drop i)=s.drop (i+1):=by
  unfold Zaj
  rw[show Zad 45 (s.drop i)=true by rw[q];rfl]
  rw[q];rfl
 rw[show Zal (s.drop i)=Zb6 .num (Znx (s.drop i)) by rw[q];simp[Zal]]
 unfold Znx
 rw[hu]
 by_cases h9:Zbd Zav (s.drop (i+1))=0∨9<Zbd Zav (s.drop (i+1))
 ·rw[if_pos h9,if_pos h9];rfl
 ·rw[if_neg h9,if_neg h9]
  simp only[Zb6,List.length_drop]
  rw[show s.length-i-(s.length-(i+1))=1 by omega]
theorem Z11 {s:List UInt8}{i:Nat}(hi:i<s.length)(h:s[i]=39):Zal (s.drop i)=if 20<Zbd Zc0 (s.drop (i+1))∨s[i+1+Zbd Zc0 (s.drop (i+1))]?≠some 39 then (.bad,0) else (.txt,Zbd Zc0 (s.drop (i+1))+2):=by
 have q:s.drop i=39::s.drop (i+1):=by rw[List.drop_eq_getElem_cons hi,h]
 rw[show Zal (s.drop i)=Zb6 .txt (Zg8 (s.drop i)) by rw[q];simp[Zal]]
 unfold Zg8
 rw[show (s.drop i).drop 1=s.drop (i+1) by rw[List.drop_drop]]
 have hs:(Zad 39 ((s.drop (i+1)).drop (Zbd Zc0 (s.drop (i+1))))=false) ↔ s[i+1+Zbd Zc0 (s.drop (i+1))]?≠some 39:=by
  simp only[Zad,List.getElem?_drop,Nat.add_zero,beq_eq_false_iff_ne]
 by_cases h9:20<Zbd Zc0 (s.drop (i+1))∨s[i+1+Zbd Zc0 (s.drop (i+1))]?≠some 39
 ·rw[if_pos h9,if_pos (by rw[hs];exact h9)];rfl
 ·rw[if_neg h9,if_neg (by rw[hs];exact h9)];rfl
theorem Zys {s:List UInt8}{i:Nat}(hi:i<s.length)(h1:s[i]≠40)(h2:s[i]≠41)(h3:s[i]≠39)(h4:s[i]≠45)(h5:Zav s[i]=false)(h6:Zbp s[i]=false):Zal (s.drop i)=(.bad,0):=by
 rw[List.drop_eq_getElem_cons hi]
 simp[Zal,h1,h2,h3,h4,h5,h6]
end Go.Proofs.YtliapghpeoaonaaGreatDoor
namespace Go.Proofs.YtliapghpeoaonaaGreatDoor
open Go.Proofs.Tryz
open Go.RowKit
attribute [local go_sem ↓] Go.wp_at_zero Go.wp_at_succ
def Zba:K→Int
 | .eof=>0
 | .opn=>40
 | .cls=>41
 | .num=>49
 | .txt=>39
 | .word=>97
 | .bad=>120
def Zck:List (Tok×ByteArray)→List Value
 | []=>[]
 | x::r=>.int .u8 (Zba x.1.k)::.string x.2::.int .i64 ((x.1.at_:Nat):Int)::Zck r
theorem Zgq (l:List (Tok×ByteArray))(x:Tok×ByteArray):Zck (l++[x])=Zck l++[.int .u8 (Zba x.1.k),.string x.2,.int .i64 ((x.1.at_:Nat):Int)]:=by
 induction l with
 | nil=>rfl
 | cons y l ih=>simp[Zck,ih]
def Zdu (l:List (Tok×ByteArray)):Prop:=∀x∈l,x.2.data.toList=x.1.body
theorem Zdu.snoc {l:List (Tok×ByteArray)}(h:Zdu l)(x:Tok×ByteArray)(hx:x.2.data.toList=x.1.body):Zdu (l++[x]):=by
 intro y hy
 rcases List.mem_append.1 hy with hy | hy
 ·exact h y hy
 ·simp at hy;subst hy;exact hx
theorem Ziu (w:World)(x y z:Value)(t:TypeId):∀j v,[x,y,z][j]?=some v→(w.alloc (.cells #[x,y,z] t)).cell? ((⟨w.heap.size,0,none⟩:Addr).add j)=some v:=by
 intro j v hj
 match j,hj with
 | 0,hj=>simp at hj;subst hj;simp[Addr.add]
 | 1,hj=>simp at hj;subst hj;simp[Addr.add]
 | 2,hj=>simp at hj;subst hj;simp[Addr.add]
 | j+3,hj=>simp at hj
theorem toks_end {s:List UInt8}{ts:List Tok}(h:Za4 s s.length ts):ts=[⟨.eof,s.length,[]⟩]:=by
 have e:Zah s s.length=⟨.eof,s.length,[]⟩:=by
  rw[Zlt s s.length (fun hp=>absurd hp (by omega))]
  simp[Zal]
 cases h with
 | last h=>rw[e]
 | more h1 h2 h3=>rw[e] at h1;exact absurd rfl h1
theorem Zjh {s:List UInt8}{p:Nat}{ts:List Tok}(h:Za4 s p ts)(hb:(Zah s p).k=.bad):ts=[Zah s p]:=by
 cases h with
 | last h=>rfl
 | more h1 h2 h3=>exact absurd hb h2
theorem Zf8 {s:List UInt8}{p:Nat}{ts:List Tok}(h:Za4 s p ts)(h1:(Zah s p).k≠.eof)(h2:(Zah s p).k≠.bad):∃r,ts=Zah s p::r∧Za4 s ((Zah s p).at_+(Zah s p).body.length) r:=by
 cases h with
 | last h=>rcases h with h | h;exact absurd h h1;exact absurd h h2
 | more _ _ h3=>exact⟨_,rfl,h3⟩
theorem Tryz.infoToken:(prog.info? 133).map (fun i=>(i.zero,i.size,i.bytes))=some (some (.agg #[.int .u8 0,.string ⟨#[]⟩,.int .i64 0]),3,32):=by kernel_rfl
def Zpe (ts:List Tok)(w:World)(e:Ending)(w':World):Prop:=(∃v l,e=.returned v∧l.map (·.1)=ts∧Zdu l∧Zao w' (w.heap.size≤·) 133 3 v l.length (Zck l))∧Below w.heap.size w w'
theorem Zl2 {x y:Int}(h:¬ x=y):(x==y)=false:=by simpa using h
theorem Zok {c d:UInt8}(h:c≠d):((c.toNat:Int)==(d.toNat:Int))=false:=by
 have:¬ c.toNat=d.toNat:=fun g=>h (UInt8.toNat_inj.1 g)
 simp;omega
theorem Zbc (w:World)(o:Obj)(x y z:Value)(t:TypeId):∀j v,[x,y,z][j]?=some v→((w.alloc o).alloc (.cells #[x,y,z] t)).cell? ((⟨w.heap.size+1,0,none⟩:Addr).add j)=some v:=by
 have:=Ziu (w.alloc o) x y z t
 simpa using this
theorem ext_data (s:ByteArray)(i n:Nat):(s.extract i (i+n)).data.toList=(s.data.toList.drop i).take n:=by
 simp[ByteArray.data_extract]
theorem Zf9 {s:ByteArray}{w wr w6:World}{i n:Nat}{l:List (Tok×ByteArray)}{ts ts2 r:List Tok}{v v':Value}{o1 o2:Obj}{K0:K}{kc:Int}{iv:Value}(_hs:s.size≤2000)(bw:Below w.heap.size w wr)(hown:wr.ownsRow w.heap.size 133 3 v l.length (Zck l))
  (HC:l.map (·.1)++ts2=ts) (htx:Zdu l) (hli:l.length≤i) (hgrow:((wr.alloc o1).alloc o2).grownBy w6 v.ownBlock) (hown':w6.ownsRow w.heap.size 133 3 v' (l.length+1) (Zck l++[.int .u8 kc,.string (s.extract i (i+n)),.int .i64 ((i:Nat):Int)])) (_hn0:True)
  (NX:Zah s.data.toList i=⟨K0,i,(s.data.toList.drop i).take n⟩) (_h1:K0≠.eof) (_h2:K0≠.bad) (hkc:Zba K0=kc) (H1:ts2=Zah s.data.toList i::r) (H2:Za4 s.data.toList ((Zah s.data.toList i).at_+(Zah s.data.toList i).body.length) r) (hpos:0<n) (hle:i+n≤s.size) (hiv:iv=.int .i64 ((i+n:Nat):Int)) :
  ∃(i':Nat) (l':List (Tok×ByteArray)) (ts2':List Tok),s.size-(i+n)=s.size-i'∧iv=.int .i64 i'∧i'≤s.size∧l'.map (·.1)++ts2'=ts∧Zdu l'∧Za4 s.data.toList i' ts2'∧l'.length≤i'∧w6.ownsRow w.heap.size 133 3 v' l'.length (Zck l')∧Below w.heap.size w w6:=by
 have hwz:=bw.size
 have hb:(Zah s.data.toList i).body.length=n:=by
  rw[NX]
  simp only[List.length_take,List.length_drop,Zj4]
  omega
 refine⟨i+n,l++[(Zah s.data.toList i,s.extract i (i+n))],r,rfl,hiv,hle,?_,htx.snoc _ ?_,?_,?_,?_,Below.grown ((bw.alloc hwz _).alloc (by simp;omega) _) hgrow (by simp;omega) (fun k hk=>(hown.lt k hk).1)⟩
 ·rw[List.map_append,←HC,H1];simp
 ·rw[NX];exact ext_data s i n
 ·rw[hb,NX] at H2;exact H2
 ·simp;omega
 ·rw[List.length_append,Zgq,NX,hkc];exact hown'
theorem Zhe {s:ByteArray}{w wr w6:World}{i:Nat}{l:List (Tok×ByteArray)}{ts ts2:List Tok}{v v':Value}{o1 o2:Obj}(bw:Below w.heap.size w wr)(hown:wr.ownsRow w.heap.size 133 3 v l.length (Zck l))
  (HC:l.map (·.1)++ts2=ts) (htx:Zdu l) (hgrow:((wr.alloc o1).alloc o2).grownBy w6 v.ownBlock) (hown':w6.ownsRow w.heap.size 133 3 v' (l.length+1) (Zck l++[.int .u8 120,.string ⟨#[]⟩,.int .i64 ((i:Nat):Int)])) (_hn0:True)
  (NX:Zah s.data.toList i=⟨.bad,i,(s.data.toList.drop i).take 0⟩) (H:ts2=[Zah s.data.toList i]):Zpe ts w (.returned v') w6:=by
 have hwz:=bw.size
 refine⟨⟨_,l++[(Zah s.data.toList i,⟨#[]⟩)],rfl,?_,htx.snoc _ ?_,?_⟩,Below.grown ((bw.alloc hwz _).alloc (by simp;omega) _) hgrow (by simp;omega) (fun k hk=>(hown.lt k hk).1)⟩
 ·rw[List.map_append,←HC,H];rfl
 ·rw[NX];simp
 ·rw[List.length_append,Zgq,NX]
  exact Zao.of_owns hown'
theorem Zxq (s:ByteArray)(w:World)(hs:s.size≤2000){ts:List Tok}(hts:Za4 s.data.toList 0 ts):
  Calls prog 55 #[.string s] w (Zpe ts w):=by
 go_enter func55,ntmps55
 go_wp2
 go_loopg [3,4] s.size (fun m v iv wr=>∃(i:Nat) (l:List (Tok×ByteArray)) (ts2:List Tok),m=s.size-i∧iv=.int .i64 i∧i≤s.size∧l.map (·.1)++ts2=ts∧Zdu l∧Za4 s.data.toList i ts2∧l.length≤i∧wr.ownsRow w.heap.size 133 3 v l.length (Zck l)∧Below w.heap.size w wr)
 case atStart=>exact⟨0,[],ts,by omega,rfl,by omega,rfl,(fun x hx=>by simp at hx),hts,by simp,World.ownsRow_nil _ _ _ _,Below.refl _ _⟩
 case round =>
  obtain⟨i,l,ts2,rfl,rfl,hi,hcat,htx,hto,hli,hown,bw⟩:=hrel
  have HC:Aside (l.map (·.1)++ts2=ts):=hcat
  obtain⟨vad,vcap,rfl⟩:=Zaf hown
  have hwz:=bw.size
  clear hcat hts
  by_cases hlt:i<s.size
  ·cases hb:blank s[i]
   ·have hil:i<s.data.toList.length:=by rw[Zj4];exact hlt
    have hbl:blank (s.data.toList[i]'hil)=false:=hb
    by_cases h40:s[i]=40
    ·have hc:(s[i].toNat:Int)=40:=by rw[h40];rfl
     have nx:=Zfo hil hbl (meas_opn hil h40)
     obtain⟨r,hr,hr2⟩:=Zf8 hto (by rw[nx];exact (by decide:K.opn≠K.eof)) (by rw[nx];exact (by decide:K.opn≠K.bad))
     have H:Aside (ts2=Zah s.data.toList i::r∧Za4 s.data.toList ((Zah s.data.toList i).at_+(Zah s.data.toList i).body.length) r):=⟨hr,hr2⟩
     have NX:Aside (Zah s.data.toList i=⟨.opn,i,(s.data.toList.drop i).take (1)⟩):=nx
     clear hto hr hr2 nx hb hbl
     clear h40
     have l1:∀w,Calls prog 95 #[.int .u8 40] w fun e w'=>e=.returned (.bool false)∧w'=w:=Zbo 40
     have d1:∀w,Calls prog 96 #[.int .u8 40] w fun e w'=>e=.returned (.bool false)∧w'=w:=Zbz 40
     go_wp2_with (first
      |(go_at_call 95;refine (l1 _).mono ?_;rintro e w' ⟨rfl,rfl⟩)
      |(go_at_call 96;refine (d1 _).mono ?_;rintro e w' ⟨rfl,rfl⟩)
      |(at_builtin;go_loud (obtain⟨i0,hi0,hz0,hz1,hz2⟩:=info_parts Tryz.infoToken;refine wpList_append_own _ rfl _ _ 124 rfl w.heap.size 133 i0 _ 3 32 underlying124 hi0 hz0 hz1 hz2 rfl (by decide) _ _ _ rfl ((hown.alloc _).alloc _) ⟨wr.heap.size+1,0,none⟩ 1 1 [.int .u8 40,.string (s.extract i (i+1)),.int .i64 ((i:Nat):Int)] rfl rfl (Zbc wr _ _ _ _ _) (fun x hx=>by simp at hx;rcases hx with h | h | h<;>(subst h;rfl)) (by unfold maxLen;omega) (by omega) (by simp;omega) ?_;intro v' w6 hown' hgrow hnil;clear hi0 hz0 hz1 hz2)))
     go_roundg (s.size-(i+1))
     case measure=>omega
     case rel=>exact Zf9 hs bw hown HC.out htx hli hgrow hown' (by simp) NX.out (by decide) (by decide) rfl H.out.1 H.out.2 (by omega) (by omega) (by go_num)
    by_cases h41:s[i]=41
    ·have hc:(s[i].toNat:Int)=41:=by rw[h41];rfl
     have nx:=Zfo hil hbl (meas_cls hil h41)
     obtain⟨r,hr,hr2⟩:=Zf8 hto (by rw[nx];exact (by decide:K.cls≠K.eof)) (by rw[nx];exact (by decide:K.cls≠K.bad))
     have H:Aside (ts2=Zah s.data.toList i::r∧Za4 s.data.toList ((Zah s.data.toList i).at_+(Zah s.data.toList i).body.length) r):=⟨hr,hr2⟩
     have NX:Aside (Zah s.data.toList i=⟨.cls,i,(s.data.toList.drop i).take (1)⟩):=nx
     clear hto hr hr2 nx hb hbl
     clear h41
     have l1:∀w,Calls prog 95 #[.int .u8 41] w fun e w'=>e=.returned (.bool false)∧w'=w:=Zbo 41
     have d1:∀w,Calls prog 96 #[.int .u8 41] w fun e w'=>e=.returned (.bool false)∧w'=w:=Zbz 41
     go_wp2_with (first
      |(go_at_call 95;refine (l1 _).mono ?_;rintro e w' ⟨rfl,rfl⟩)
      |(go_at_call 96;refine (d1 _).mono ?_;rintro e w' ⟨rfl,rfl⟩)
      |(at_builtin;go_loud (obtain⟨i0,hi0,hz0,hz1,hz2⟩:=info_parts Tryz.infoToken;refine wpList_append_own _ rfl _ _ 124 rfl w.heap.size 133 i0 _ 3 32 underlying124 hi0 hz0 hz1 hz2 rfl (by decide) _ _ _ rfl ((hown.alloc _).alloc _) ⟨wr.heap.size+1,0,none⟩ 1 1 [.int .u8 41,.string (s.extract i (i+1)),.int .i64 ((i:Nat):Int)] rfl rfl (Zbc wr _ _ _ _ _) (fun x hx=>by simp at hx;rcases hx with h | h | h<;>(subst h;rfl)) (by unfold maxLen;omega) (by omega) (by simp;omega) ?_;intro v' w6 hown' hgrow hnil;clear hi0 hz0 hz1 hz2)))
     go_roundg (s.size-(i+1))
     case measure=>omega
     case rel=>exact Zf9 hs bw hown HC.out htx hli hgrow hown' (by simp) NX.out (by decide) (by decide) rfl H.out.1 H.out.2 (by omega) (by omega) (by go_num)
    have hne:¬ (s[i].toNat:Int)=32∧¬ (s[i].toNat:Int)=10:=by
     have:=mt (Zom s[i]).2 (by rw[hb];decide)
     omega
    obtain⟨n32,n10⟩:=hne
    have b32:((s[i].toNat:Int)==32)=false:=Zl2 n32
    have b10:((s[i].toNat:Int)==10)=false:=Zl2 n10
    have b40:((s[i].toNat:Int)==40)=false:=Zok h40
    have b41:((s[i].toNat:Int)==41)=false:=Zok h41
    clear n32 n10
    cases hlet:Zbp s[i]
    case' true =>
     have hdig:Zav s[i]=false:=(Zk2 hlet).2.2.2.2
     have hrl:=Zdb Zbp (s.data.toList.drop i)
     rw[List.length_drop,Zj4] at hrl
     have cr:=fun w=>rrun_1 s i w (by unfold maxLen;omega) (by omega)
     have hme:=Z10 hil (show Zbp s.data.toList[i]=true from hlet)
     have hpos:0<Zbd Zbp (s.data.toList.drop i):=by rw[List.drop_eq_getElem_cons hil,Zb1 Zbp _ _ (show Zbp s.data.toList[i]=true from hlet)];omega
     generalize Zbd Zbp (s.data.toList.drop i)=n at *
     by_cases hn:8<n
     ·rw[if_pos hn] at hme
      have nx:=Zfo hil hbl (hme)
      have H:Aside (ts2=[Zah s.data.toList i]):=Zjh hto (by rw[nx])
      have NX:Aside (Zah s.data.toList i=⟨.bad,i,(s.data.toList.drop i).take 0⟩):=nx
      clear hto nx hb hbl
      have l1:∀w,Calls prog 95 #[.int .u8 (s[i].toNat:Int)] w fun e w'=>e=.returned (.bool true)∧w'=w:=by have:=Zbo s[i];rw[hlet] at this;exact this
      have d1:∀w,Calls prog 96 #[.int .u8 (s[i].toNat:Int)] w fun e w'=>e=.returned (.bool false)∧w'=w:=by have:=Zbz s[i];rw[hdig] at this;exact this
      clear hme hlet hdig h40 h41
      go_wp2_with (first
       |(go_at_call 95;refine (l1 _).mono ?_;rintro e w' ⟨rfl,rfl⟩)
       |(go_at_call 96;refine (d1 _).mono ?_;rintro e w' ⟨rfl,rfl⟩)
       |(go_at_call 88;refine (cr _).mono ?_;rintro e w' ⟨rfl,rfl⟩)
       |(at_builtin;go_loud (obtain⟨i0,hi0,hz0,hz1,hz2⟩:=info_parts Tryz.infoToken;refine wpList_append_own _ rfl _ _ 124 rfl w.heap.size 133 i0 _ 3 32 underlying124 hi0 hz0 hz1 hz2 rfl (by decide) _ _ _ rfl ((hown.alloc _).alloc _) ⟨wr.heap.size+1,0,none⟩ 1 1 [.int .u8 120,.string ⟨#[]⟩,.int .i64 ((i:Nat):Int)] rfl rfl (Zbc wr _ _ _ _ _) (fun x hx=>by simp at hx;rcases hx with h | h | h<;>(subst h;rfl)) (by unfold maxLen;omega) (by omega) (by simp;omega) ?_;intro v' w6 hown' hgrow hnil;clear hi0 hz0 hz1 hz2)))
      go_ret
      exact Zhe bw hown HC.out htx hgrow hown' (by simp) NX.out H.out
     ·rw[if_neg hn] at hme
      have nx:=Zfo hil hbl (hme)
      obtain⟨r,hr,hr2⟩:=Zf8 hto (by rw[nx];exact (by decide:K.word≠K.eof)) (by rw[nx];exact (by decide:K.word≠K.bad))
      have H:Aside (ts2=Zah s.data.toList i::r∧Za4 s.data.toList ((Zah s.data.toList i).at_+(Zah s.data.toList i).body.length) r):=⟨hr,hr2⟩
      have NX:Aside (Zah s.data.toList i=⟨.word,i,(s.data.toList.drop i).take (n)⟩):=nx
      clear hto hr hr2 nx hb hbl
      have l1:∀w,Calls prog 95 #[.int .u8 (s[i].toNat:Int)] w fun e w'=>e=.returned (.bool true)∧w'=w:=by have:=Zbo s[i];rw[hlet] at this;exact this
      have d1:∀w,Calls prog 96 #[.int .u8 (s[i].toNat:Int)] w fun e w'=>e=.returned (.bool false)∧w'=w:=by have:=Zbz s[i];rw[hdig] at this;exact this
      clear hme hlet hdig h40 h41
      go_wp2_with (first
       |(go_at_call 95;refine (l1 _).mono ?_;rintro e w' ⟨rfl,rfl⟩)
       |(go_at_call 96;refine (d1 _).mono ?_;rintro e w' ⟨rfl,rfl⟩)
       |(go_at_call 88;refine (cr _).mono ?_;rintro e w' ⟨rfl,rfl⟩)
       |(at_builtin;go_loud (obtain⟨i0,hi0,hz0,hz1,hz2⟩:=info_parts Tryz.infoToken;refine wpList_append_own _ rfl _ _ 124 rfl w.heap.size 133 i0 _ 3 32 underlying124 hi0 hz0 hz1 hz2 rfl (by decide) _ _ _ rfl ((hown.alloc _).alloc _) ⟨wr.heap.size+1,0,none⟩ 1 1 [.int .u8 97,.string (s.extract i (i+n)),.int .i64 ((i:Nat):Int)] rfl rfl (Zbc wr _ _ _ _ _) (fun x hx=>by simp at hx;rcases hx with h | h | h<;>(subst h;rfl)) (by unfold maxLen;omega) (by omega) (by simp;omega) ?_;intro v' w6 hown' hgrow hnil;clear hi0 hz0 hz1 hz2)))
      go_roundg (s.size-(i+n))
      case measure=>omega
      case rel=>exact Zf9 hs bw hown HC.out htx hli hgrow hown' (by simp) NX.out (by decide) (by decide) rfl H.out.1 H.out.2 (by omega) (by omega) (by go_num)
    cases hdig:Zav s[i]
    case' true =>
     have hrl:=Zdb Zav (s.data.toList.drop i)
     rw[List.length_drop,Zj4] at hrl
     have cr:=fun w=>Z0l s i w (by unfold maxLen;omega) (by omega)
     have hme:=Zyu hil (show Zav s.data.toList[i]=true from hdig)
     have hpos:0<Zbd Zav (s.data.toList.drop i):=by rw[List.drop_eq_getElem_cons hil,Zb1 Zav _ _ (show Zav s.data.toList[i]=true from hdig)];omega
     generalize Zbd Zav (s.data.toList.drop i)=n at *
     by_cases hn:9<n
     ·rw[if_pos hn] at hme
      have nx:=Zfo hil hbl (hme)
      have H:Aside (ts2=[Zah s.data.toList i]):=Zjh hto (by rw[nx])
      have NX:Aside (Zah s.data.toList i=⟨.bad,i,(s.data.toList.drop i).take 0⟩):=nx
      clear hto nx hb hbl
      have l1:∀w,Calls prog 95 #[.int .u8 (s[i].toNat:Int)] w fun e w'=>e=.returned (.bool false)∧w'=w:=by have:=Zbo s[i];rw[hlet] at this;exact this
      have d1:∀w,Calls prog 96 #[.int .u8 (s[i].toNat:Int)] w fun e w'=>e=.returned (.bool true)∧w'=w:=by have:=Zbz s[i];rw[hdig] at this;exact this
      clear hme hlet hdig h40 h41
      go_wp2_with (first
       |(go_at_call 95;refine (l1 _).mono ?_;rintro e w' ⟨rfl,rfl⟩)
       |(go_at_call 96;refine (d1 _).mono ?_;rintro e w' ⟨rfl,rfl⟩)
       |(go_at_call 88;refine (cr _).mono ?_;rintro e w' ⟨rfl,rfl⟩)
       |(at_builtin;go_loud (obtain⟨i0,hi0,hz0,hz1,hz2⟩:=info_parts Tryz.infoToken;refine wpList_append_own _ rfl _ _ 124 rfl w.heap.size 133 i0 _ 3 32 underlying124 hi0 hz0 hz1 hz2 rfl (by decide) _ _ _ rfl ((hown.alloc _).alloc _) ⟨wr.heap.size+1,0,none⟩ 1 1 [.int .u8 120,.string ⟨#[]⟩,.int .i64 ((i:Nat):Int)] rfl rfl (Zbc wr _ _ _ _ _) (fun x hx=>by simp at hx;rcases hx with h | h | h<;>(subst h;rfl)) (by unfold maxLen;omega) (by omega) (by simp;omega) ?_;intro v' w6 hown' hgrow hnil;clear hi0 hz0 hz1 hz2)))
      go_ret
      exact Zhe bw hown HC.out htx hgrow hown' (by simp) NX.out H.out
     ·rw[if_neg hn] at hme
      have nx:=Zfo hil hbl (hme)
      obtain⟨r,hr,hr2⟩:=Zf8 hto (by rw[nx];exact (by decide:K.num≠K.eof)) (by rw[nx];exact (by decide:K.num≠K.bad))
      have H:Aside (ts2=Zah s.data.toList i::r∧Za4 s.data.toList ((Zah s.data.toList i).at_+(Zah s.data.toList i).body.length) r):=⟨hr,hr2⟩
      have NX:Aside (Zah s.data.toList i=⟨.num,i,(s.data.toList.drop i).take (n)⟩):=nx
      clear hto hr hr2 nx hb hbl
      have l1:∀w,Calls prog 95 #[.int .u8 (s[i].toNat:Int)] w fun e w'=>e=.returned (.bool false)∧w'=w:=by have:=Zbo s[i];rw[hlet] at this;exact this
      have d1:∀w,Calls prog 96 #[.int .u8 (s[i].toNat:Int)] w fun e w'=>e=.returned (.bool true)∧w'=w:=by have:=Zbz s[i];rw[hdig] at this;exact this
      clear hme hlet hdig h40 h41
      go_wp2_with (first
       |(go_at_call 95;refine (l1 _).mono ?_;rintro e w' ⟨rfl,rfl⟩)
       |(go_at_call 96;refine (d1 _).mono ?_;rintro e w' ⟨rfl,rfl⟩)
       |(go_at_call 88;refine (cr _).mono ?_;rintro e w' ⟨rfl,rfl⟩)
       |(at_builtin;go_loud (obtain⟨i0,hi0,hz0,hz1,hz2⟩:=info_parts Tryz.infoToken;refine wpList_append_own _ rfl _ _ 124 rfl w.heap.size 133 i0 _ 3 32 underlying124 hi0 hz0 hz1 hz2 rfl (by decide) _ _ _ rfl ((hown.alloc _).alloc _) ⟨wr.heap.size+1,0,none⟩ 1 1 [.int .u8 49,.string (s.extract i (i+n)),.int .i64 ((i:Nat):Int)] rfl rfl (Zbc wr _ _ _ _ _) (fun x hx=>by simp at hx;rcases hx with h | h | h<;>(subst h;rfl)) (by unfold maxLen;omega) (by omega) (by simp;omega) ?_;intro v' w6 hown' hgrow hnil;clear hi0 hz0 hz1 hz2)))
      go_roundg (s.size-(i+n))
      case measure=>omega
      case rel=>exact Zf9 hs bw hown HC.out htx hli hgrow hown' (by simp) NX.out (by decide) (by decide) rfl H.out.1 H.out.2 (by omega) (by omega) (by go_num)
    by_cases h45:s[i]=45
    ·have hc:(s[i].toNat:Int)=45:=by rw[h45];rfl
     have hrl:=Zdb Zav (s.data.toList.drop (i+1))
     rw[List.length_drop,Zj4] at hrl
     have cr:=fun w=>Z0l s (i+1) w (by unfold maxLen;omega) (by omega)
     have hme:=Zyt hil h45
     generalize Zbd Zav (s.data.toList.drop (i+1))=n at *
     by_cases hn:n=0∨9<n
     ·rw[if_pos hn] at hme
      have nx:=Zfo hil hbl (hme)
      have H:Aside (ts2=[Zah s.data.toList i]):=Zjh hto (by rw[nx])
      have NX:Aside (Zah s.data.toList i=⟨.bad,i,(s.data.toList.drop i).take 0⟩):=nx
      clear hto nx hb hbl
      have l1:∀w,Calls prog 95 #[.int .u8 45] w fun e w'=>e=.returned (.bool false)∧w'=w:=Zbo 45
      have d1:∀w,Calls prog 96 #[.int .u8 45] w fun e w'=>e=.returned (.bool false)∧w'=w:=Zbz 45
      clear hme hlet hdig h40 h41 h45 b32 b10 b40 b41
      rcases hn with hn | hn
      ·
       go_wp2_with (first
        |(go_at_call 95;refine (l1 _).mono ?_;rintro e w' ⟨rfl,rfl⟩)
        |(go_at_call 96;refine (d1 _).mono ?_;rintro e w' ⟨rfl,rfl⟩)
        |(go_at_call 88;refine (cr _).mono ?_;rintro e w' ⟨rfl,rfl⟩)
        |(at_builtin;go_loud (obtain⟨i0,hi0,hz0,hz1,hz2⟩:=info_parts Tryz.infoToken;refine wpList_append_own _ rfl _ _ 124 rfl w.heap.size 133 i0 _ 3 32 underlying124 hi0 hz0 hz1 hz2 rfl (by decide) _ _ _ rfl ((hown.alloc _).alloc _) ⟨wr.heap.size+1,0,none⟩ 1 1 [.int .u8 120,.string ⟨#[]⟩,.int .i64 ((i:Nat):Int)] rfl rfl (Zbc wr _ _ _ _ _) (fun x hx=>by simp at hx;rcases hx with h | h | h<;>(subst h;rfl)) (by unfold maxLen;omega) (by omega) (by simp;omega) ?_;intro v' w6 hown' hgrow hnil;clear hi0 hz0 hz1 hz2)))
       go_ret
       exact Zhe bw hown HC.out htx hgrow hown' (by simp) NX.out H.out
      ·
       go_wp2_with (first
        |(go_at_call 95;refine (l1 _).mono ?_;rintro e w' ⟨rfl,rfl⟩)
        |(go_at_call 96;refine (d1 _).mono ?_;rintro e w' ⟨rfl,rfl⟩)
        |(go_at_call 88;refine (cr _).mono ?_;rintro e w' ⟨rfl,rfl⟩)
        |(at_builtin;go_loud (obtain⟨i0,hi0,hz0,hz1,hz2⟩:=info_parts Tryz.infoToken;refine wpList_append_own _ rfl _ _ 124 rfl w.heap.size 133 i0 _ 3 32 underlying124 hi0 hz0 hz1 hz2 rfl (by decide) _ _ _ rfl ((hown.alloc _).alloc _) ⟨wr.heap.size+1,0,none⟩ 1 1 [.int .u8 120,.string ⟨#[]⟩,.int .i64 ((i:Nat):Int)] rfl rfl (Zbc wr _ _ _ _ _) (fun x hx=>by simp at hx;rcases hx with h | h | h<;>(subst h;rfl)) (by unfold maxLen;omega) (by omega) (by simp;omega) ?_;intro v' w6 hown' hgrow hnil;clear hi0 hz0 hz1 hz2)))
       go_ret
       exact Zhe bw hown HC.out htx hgrow hown' (by simp) NX.out H.out
     ·rw[if_neg hn] at hme
      have nx:=Zfo hil hbl (hme)
      obtain⟨r,hr,hr2⟩:=Zf8 hto (by rw[nx];exact (by decide:K.num≠K.eof)) (by rw[nx];exact (by decide:K.num≠K.bad))
      have H:Aside (ts2=Zah s.data.toList i::r∧Za4 s.data.toList ((Zah s.data.toList i).at_+(Zah s.data.toList i).body.length) r):=⟨hr,hr2⟩
      have NX:Aside (Zah s.data.toList i=⟨.num,i,(s.data.toList.drop i).take (1+n)⟩):=nx
      clear hto hr hr2 nx hb hbl
      have l1:∀w,Calls prog 95 #[.int .u8 45] w fun e w'=>e=.returned (.bool false)∧w'=w:=Zbo 45
      have d1:∀w,Calls prog 96 #[.int .u8 45] w fun e w'=>e=.returned (.bool false)∧w'=w:=Zbz 45
      clear hme hlet hdig h40 h41 h45 b32 b10 b40 b41
      go_wp2_with (first
       |(go_at_call 95;refine (l1 _).mono ?_;rintro e w' ⟨rfl,rfl⟩)
       |(go_at_call 96;refine (d1 _).mono ?_;rintro e w' ⟨rfl,rfl⟩)
       |(go_at_call 88;refine (cr _).mono ?_;rintro e w' ⟨rfl,rfl⟩)
       |(at_builtin;go_loud (obtain⟨i0,hi0,hz0,hz1,hz2⟩:=info_parts Tryz.infoToken;refine wpList_append_own _ rfl _ _ 124 rfl w.heap.size 133 i0 _ 3 32 underlying124 hi0 hz0 hz1 hz2 rfl (by decide) _ _ _ rfl ((hown.alloc _).alloc _) ⟨wr.heap.size+1,0,none⟩ 1 1 [.int .u8 49,.string (s.extract i (i+(1+n))),.int .i64 ((i:Nat):Int)] rfl rfl (Zbc wr _ _ _ _ _) (fun x hx=>by simp at hx;rcases hx with h | h | h<;>(subst h;rfl)) (by unfold maxLen;omega) (by omega) (by simp;omega) ?_;intro v' w6 hown' hgrow hnil;clear hi0 hz0 hz1 hz2)))
      go_roundg (s.size-(i+(1+n)))
      case measure=>omega
      case rel=>exact Zf9 hs bw hown HC.out htx hli hgrow hown' (by simp) NX.out (by decide) (by decide) rfl H.out.1 H.out.2 (by omega) (by omega) (by go_num)
    by_cases h39:s[i]=39
    ·have hc:(s[i].toNat:Int)=39:=by rw[h39];rfl
     have hrl:=Zdb Zc0 (s.data.toList.drop (i+1))
     rw[List.length_drop,Zj4] at hrl
     have cr:=fun w=>rrun_3 s (i+1) w (by unfold maxLen;omega) (by omega)
     have hme:=Z11 hil h39
     generalize Zbd Zc0 (s.data.toList.drop (i+1))=n at *
     by_cases hn:20<n∨s.data.toList[i+1+n]?≠some 39
     ·rw[if_pos hn] at hme
      have nx:=Zfo hil hbl (hme)
      have H:Aside (ts2=[Zah s.data.toList i]):=Zjh hto (by rw[nx])
      have NX:Aside (Zah s.data.toList i=⟨.bad,i,(s.data.toList.drop i).take 0⟩):=nx
      clear hto nx hb hbl
      have l1:∀w,Calls prog 95 #[.int .u8 39] w fun e w'=>e=.returned (.bool false)∧w'=w:=Zbo 39
      have d1:∀w,Calls prog 96 #[.int .u8 39] w fun e w'=>e=.returned (.bool false)∧w'=w:=Zbz 39
      clear hme hlet hdig h40 h41 h39 h45 b32 b10 b40 b41
      by_cases h20:20<n
      ·
       go_wp2_with (first
        |(go_at_call 95;refine (l1 _).mono ?_;rintro e w' ⟨rfl,rfl⟩)
        |(go_at_call 96;refine (d1 _).mono ?_;rintro e w' ⟨rfl,rfl⟩)
        |(go_at_call 88;refine (cr _).mono ?_;rintro e w' ⟨rfl,rfl⟩)
        |(at_builtin;go_loud (obtain⟨i0,hi0,hz0,hz1,hz2⟩:=info_parts Tryz.infoToken;refine wpList_append_own _ rfl _ _ 124 rfl w.heap.size 133 i0 _ 3 32 underlying124 hi0 hz0 hz1 hz2 rfl (by decide) _ _ _ rfl ((hown.alloc _).alloc _) ⟨wr.heap.size+1,0,none⟩ 1 1 [.int .u8 120,.string ⟨#[]⟩,.int .i64 ((i:Nat):Int)] rfl rfl (Zbc wr _ _ _ _ _) (fun x hx=>by simp at hx;rcases hx with h | h | h<;>(subst h;rfl)) (by unfold maxLen;omega) (by omega) (by simp;omega) ?_;intro v' w6 hown' hgrow hnil;clear hi0 hz0 hz1 hz2)))
       go_ret
       exact Zhe bw hown HC.out htx hgrow hown' (by simp) NX.out H.out
      by_cases hin:i+1+n<s.size
      ·have hq:((s[i+1+n].toNat:Int)==39)=false:=Zok fun g=>by
        rcases hn with g1 | g1
        ·exact h20 g1
        ·refine g1 ?_
         rw[List.getElem?_eq_getElem (by rw[Zj4];exact hin)]
         exact congrArg some g
       clear hn
       go_wp2_with (first
        |(go_at_call 95;refine (l1 _).mono ?_;rintro e w' ⟨rfl,rfl⟩)
        |(go_at_call 96;refine (d1 _).mono ?_;rintro e w' ⟨rfl,rfl⟩)
        |(go_at_call 88;refine (cr _).mono ?_;rintro e w' ⟨rfl,rfl⟩)
        |(at_builtin;go_loud (obtain⟨i0,hi0,hz0,hz1,hz2⟩:=info_parts Tryz.infoToken;refine wpList_append_own _ rfl _ _ 124 rfl w.heap.size 133 i0 _ 3 32 underlying124 hi0 hz0 hz1 hz2 rfl (by decide) _ _ _ rfl ((hown.alloc _).alloc _) ⟨wr.heap.size+1,0,none⟩ 1 1 [.int .u8 120,.string ⟨#[]⟩,.int .i64 ((i:Nat):Int)] rfl rfl (Zbc wr _ _ _ _ _) (fun x hx=>by simp at hx;rcases hx with h | h | h<;>(subst h;rfl)) (by unfold maxLen;omega) (by omega) (by simp;omega) ?_;intro v' w6 hown' hgrow hnil;clear hi0 hz0 hz1 hz2)))
       go_ret
       exact Zhe bw hown HC.out htx hgrow hown' (by simp) NX.out H.out
      ·clear hn
       go_wp2_with (first
        |(go_at_call 95;refine (l1 _).mono ?_;rintro e w' ⟨rfl,rfl⟩)
        |(go_at_call 96;refine (d1 _).mono ?_;rintro e w' ⟨rfl,rfl⟩)
        |(go_at_call 88;refine (cr _).mono ?_;rintro e w' ⟨rfl,rfl⟩)
        |(at_builtin;go_loud (obtain⟨i0,hi0,hz0,hz1,hz2⟩:=info_parts Tryz.infoToken;refine wpList_append_own _ rfl _ _ 124 rfl w.heap.size 133 i0 _ 3 32 underlying124 hi0 hz0 hz1 hz2 rfl (by decide) _ _ _ rfl ((hown.alloc _).alloc _) ⟨wr.heap.size+1,0,none⟩ 1 1 [.int .u8 120,.string ⟨#[]⟩,.int .i64 ((i:Nat):Int)] rfl rfl (Zbc wr _ _ _ _ _) (fun x hx=>by simp at hx;rcases hx with h | h | h<;>(subst h;rfl)) (by unfold maxLen;omega) (by omega) (by simp;omega) ?_;intro v' w6 hown' hgrow hnil;clear hi0 hz0 hz1 hz2)))
       go_ret
       exact Zhe bw hown HC.out htx hgrow hown' (by simp) NX.out H.out
     ·rw[if_neg hn] at hme
      have h20:n≤20:=Nat.le_of_not_lt fun g=>hn (Or.inl g)
      have h39b:s.data.toList[i+1+n]?=some 39:=Classical.byContradiction fun g=>hn (Or.inr g)
      obtain⟨hin,hq0⟩:=List.getElem?_eq_some_iff.1 h39b
      rw[Zj4] at hin
      have hq:(s[i+1+n].toNat:Int)=39:=by
       have:s[i+1+n]=39:=hq0
       rw[this];rfl
      have nx:=Zfo hil hbl (hme)
      obtain⟨r,hr,hr2⟩:=Zf8 hto (by rw[nx];exact (by decide:K.txt≠K.eof)) (by rw[nx];exact (by decide:K.txt≠K.bad))
      have H:Aside (ts2=Zah s.data.toList i::r∧Za4 s.data.toList ((Zah s.data.toList i).at_+(Zah s.data.toList i).body.length) r):=⟨hr,hr2⟩
      have NX:Aside (Zah s.data.toList i=⟨.txt,i,(s.data.toList.drop i).take (n+2)⟩):=nx
      clear hto hr hr2 nx hb hbl
      have l1:∀w,Calls prog 95 #[.int .u8 39] w fun e w'=>e=.returned (.bool false)∧w'=w:=Zbo 39
      have d1:∀w,Calls prog 96 #[.int .u8 39] w fun e w'=>e=.returned (.bool false)∧w'=w:=Zbz 39
      clear hme hlet hdig h40 h41 h39 h45 b32 b10 b40 b41 hn h39b hq0
      go_wp2_with (first
       |(go_at_call 95;refine (l1 _).mono ?_;rintro e w' ⟨rfl,rfl⟩)
       |(go_at_call 96;refine (d1 _).mono ?_;rintro e w' ⟨rfl,rfl⟩)
       |(go_at_call 88;refine (cr _).mono ?_;rintro e w' ⟨rfl,rfl⟩)
       |(at_builtin;go_loud (obtain⟨i0,hi0,hz0,hz1,hz2⟩:=info_parts Tryz.infoToken;refine wpList_append_own _ rfl _ _ 124 rfl w.heap.size 133 i0 _ 3 32 underlying124 hi0 hz0 hz1 hz2 rfl (by decide) _ _ _ rfl ((hown.alloc _).alloc _) ⟨wr.heap.size+1,0,none⟩ 1 1 [.int .u8 39,.string (s.extract i (i+(n+2))),.int .i64 ((i:Nat):Int)] rfl rfl (Zbc wr _ _ _ _ _) (fun x hx=>by simp at hx;rcases hx with h | h | h<;>(subst h;rfl)) (by unfold maxLen;omega) (by omega) (by simp;omega) ?_;intro v' w6 hown' hgrow hnil;clear hi0 hz0 hz1 hz2)))
      go_roundg (s.size-(i+(n+2)))
      case measure=>omega
      case rel=>exact Zf9 hs bw hown HC.out htx hli hgrow hown' (by simp) NX.out (by decide) (by decide) rfl H.out.1 H.out.2 (by omega) (by omega) (by go_num)
    have b45:((s[i].toNat:Int)==45)=false:=Zok h45
    have b39:((s[i].toNat:Int)==39)=false:=Zok h39
    have nx:=Zfo hil hbl (Zys hil h40 h41 h39 h45 hdig hlet)
    have H:Aside (ts2=[Zah s.data.toList i]):=Zjh hto (by rw[nx])
    have NX:Aside (Zah s.data.toList i=⟨.bad,i,(s.data.toList.drop i).take 0⟩):=nx
    clear hto nx hb hbl
    have l1:∀w,Calls prog 95 #[.int .u8 (s[i].toNat:Int)] w fun e w'=>e=.returned (.bool false)∧w'=w:=by have:=Zbo s[i];rw[hlet] at this;exact this
    have d1:∀w,Calls prog 96 #[.int .u8 (s[i].toNat:Int)] w fun e w'=>e=.returned (.bool false)∧w'=w:=by have:=Zbz s[i];rw[hdig] at this;exact this
    clear hlet hdig h40 h41 h39 h45
    go_wp2_with (first
     |(go_at_call 95;refine (l1 _).mono ?_;rintro e w' ⟨rfl,rfl⟩)
     |(go_at_call 96;refine (d1 _).mono ?_;rintro e w' ⟨rfl,rfl⟩)
     |(at_builtin;go_loud (obtain⟨i0,hi0,hz0,hz1,hz2⟩:=info_parts Tryz.infoToken;refine wpList_append_own _ rfl _ _ 124 rfl w.heap.size 133 i0 _ 3 32 underlying124 hi0 hz0 hz1 hz2 rfl (by decide) _ _ _ rfl ((hown.alloc _).alloc _) ⟨wr.heap.size+1,0,none⟩ 1 1 [.int .u8 120,.string ⟨#[]⟩,.int .i64 ((i:Nat):Int)] rfl rfl (Zbc wr _ _ _ _ _) (fun x hx=>by simp at hx;rcases hx with h | h | h<;>(subst h;rfl)) (by unfold maxLen;omega) (by omega) (by simp;omega) ?_;intro v' w6 hown' hgrow hnil;clear hi0 hz0 hz1 hz2)))
    go_ret
    exact Zhe bw hown HC.out htx hgrow hown' (by simp) NX.out H.out
   ·have hto2:=hto.blank (by rw[Zj4];exact hlt) (show blank s[i]=true from hb)
    rw[Zom] at hb
    clear hto
    have lt:∀(n:Nat) (h:n<256) (w:World),Calls prog 95 #[.int .u8 ((n:Nat):Int)] w fun e w'=>(∃b,e=.returned (.bool b))∧w'=w:=fun n h w=>by
     have:=Zbo (UInt8.ofNat n) w
     rw[show B (UInt8.ofNat n)=.int .u8 ((n:Nat):Int) by simp[B,UInt8.toNat_ofNat',Nat.mod_eq_of_lt h]] at this
     exact this.mono fun e w' h=>⟨⟨_,h.1⟩,h.2⟩
    have dt:∀(n:Nat) (h:n<256) (w:World),Calls prog 96 #[.int .u8 ((n:Nat):Int)] w fun e w'=>(∃b,e=.returned (.bool b))∧w'=w:=fun n h w=>by
     have:=Zbz (UInt8.ofNat n) w
     rw[show B (UInt8.ofNat n)=.int .u8 ((n:Nat):Int) by simp[B,UInt8.toNat_ofNat',Nat.mod_eq_of_lt h]] at this
     exact this.mono fun e w' h=>⟨⟨_,h.1⟩,h.2⟩
    rcases hb with hb | hb
    ·have l1:∀w,Calls prog 95 #[.int .u8 32] w fun e w'=>(∃b,e=.returned (.bool b))∧w'=w:=fun w=>lt 32 (by omega) w
     have d1:∀w,Calls prog 96 #[.int .u8 32] w fun e w'=>(∃b,e=.returned (.bool b))∧w'=w:=fun w=>dt 32 (by omega) w
     clear lt dt
     go_wp2_with (first
      |(go_at_call 95;refine (l1 _).mono ?_;rintro e w' ⟨⟨b1,rfl⟩,rfl⟩)
      |(go_at_call 96;refine (d1 _).mono ?_;rintro e w' ⟨⟨b2,rfl⟩,rfl⟩))
     go_roundg (s.size-(i+1))
     case measure=>omega
     case rel=>exact⟨i+1,l,ts2,rfl,by go_num,by omega,HC.out,htx,hto2,by omega,hown.alloc _,bw.alloc hwz _⟩
    ·have l1:∀w,Calls prog 95 #[.int .u8 10] w fun e w'=>(∃b,e=.returned (.bool b))∧w'=w:=fun w=>lt 10 (by omega) w
     have d1:∀w,Calls prog 96 #[.int .u8 10] w fun e w'=>(∃b,e=.returned (.bool b))∧w'=w:=fun w=>dt 10 (by omega) w
     clear lt dt
     go_wp2_with (first
      |(go_at_call 95;refine (l1 _).mono ?_;rintro e w' ⟨⟨b1,rfl⟩,rfl⟩)
      |(go_at_call 96;refine (d1 _).mono ?_;rintro e w' ⟨⟨b2,rfl⟩,rfl⟩))
     go_roundg (s.size-(i+1))
     case measure=>omega
     case rel=>exact⟨i+1,l,ts2,rfl,by go_num,by omega,HC.out,htx,hto2,by omega,hown.alloc _,bw.alloc hwz _⟩
  ·have hii:i=s.size:=by omega
   subst hii
   have e:=toks_end (s:=s.data.toList) (ts:=ts2) (by rw[Zj4];exact hto)
   rw[Zj4] at e
   have HE:Aside (ts2=[⟨.eof,s.size,[]⟩]):=e
   clear e hto
   go_wp2_with (at_builtin;go_loud (obtain⟨i0,hi0,hz0,hz1,hz2⟩:=info_parts Tryz.infoToken;refine wpList_append_own _ rfl _ _ 124 rfl w.heap.size 133 i0 _ 3 32 underlying124 hi0 hz0 hz1 hz2 rfl (by decide) _ _ _ rfl (hown.alloc _) ⟨wr.heap.size,0,none⟩ 1 1 [.int .u8 0,.string ⟨#[]⟩,.int .i64 ((s.size:Nat):Int)] rfl rfl (Ziu wr _ _ _ _) (fun x hx=>by simp at hx;rcases hx with h | h | h<;>(subst h;rfl)) (by unfold maxLen;omega) (by omega) (by simp;omega) ?_;intro v' w6 hown' hgrow hnil;clear hi0 hz0 hz1 hz2))
   go_ret
   refine⟨⟨_,l++[(⟨.eof,s.size,[]⟩,⟨#[]⟩)],rfl,?_,htx.snoc _ rfl,?_⟩,Below.grown (bw.alloc hwz _) hgrow (by simp;omega) (fun k hk=>(hown.lt k hk).1)⟩
   ·rw[List.map_append,←HC.out,HE.out];rfl
   ·rw[List.length_append,Zgq]
    exact Zao.of_owns hown'
end Go.Proofs.YtliapghpeoaonaaGreatDoor
