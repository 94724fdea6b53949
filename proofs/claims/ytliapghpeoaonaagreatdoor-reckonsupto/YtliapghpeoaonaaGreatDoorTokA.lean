/-
  What the small functions of package token answer, for every byte and every text.
-/
import Derived.Test.YtliapghpeoaonaaGreatDoorRows
import Derived.Test.YtliapghpeoaonaaGreatDoorPure
import Derived.WalkKit
import Derived.WalkSpells
import Derived.WalkLawsBesides
import Derived.Deep.QuietTactic
import Derived.BigQuiet
import Derived.Lib.IndexBytes
set_option maxHeartbeats 1000000
namespace Go.Proofs.YtliapghpeoaonaaGreatDoor
open Go.Proofs.Tryz
open Go.RowKit
abbrev B (c:UInt8):Value:=.int .u8 (c.toNat:Int)
theorem Zdn {a b:Bool}(h:a=b):Ending.returned (.bool a)=.returned (.bool b):=by rw[h]
theorem Zd6 {k:IntKind}{a b:Int}(h:a=b):Ending.returned (.int k a)=.returned (.int k b):=by rw[h]
theorem Zom (c:UInt8):blank c=true ↔ (c.toNat:Int)=32∨(c.toNat:Int)=10:=by
 simp[blank,←UInt8.toNat_inj];omega
theorem Zfq (c:UInt8):Zav c=true ↔ 48≤(c.toNat:Int)∧(c.toNat:Int)≤57:=by
 simp[Zav,UInt8.le_iff_toNat_le];omega
theorem Zh6 (c:UInt8):Zbp c=true ↔ 97≤(c.toNat:Int)∧(c.toNat:Int)≤122:=by
 simp[Zbp,UInt8.le_iff_toNat_le];omega
theorem Zwo (c:UInt8):Zc0 c=true ↔ (32≤(c.toNat:Int)∧(c.toNat:Int)≤126)∧(c.toNat:Int)≠39:=by
 simp[Zc0,UInt8.le_iff_toNat_le,←UInt8.toNat_inj];omega
theorem Zoa (c:UInt8)(w:World):Calls prog 181 #[B c] w fun e w'=>e=.returned (.bool (blank c))∧w'=w:=by
 go_enter func181,ntmps181
 go_wp2
 all_goals (go_ret;exact⟨Zdn (Bool.eq_iff_iff.2 (by rw[Zom];simp<;>omega)),rfl⟩)
theorem Zfp (c:UInt8)(w:World):Calls prog 203 #[B c] w fun e w'=>e=.returned (.bool (Zav c))∧w'=w:=by
 go_enter func203,ntmps203
 go_wp2
 all_goals (go_ret;exact⟨Zdn (Bool.eq_iff_iff.2 (by rw[Zfq];simp<;>omega)),rfl⟩)
theorem Zf0 (c:UInt8)(w:World):Calls prog 219 #[B c] w fun e w'=>e=.returned (.bool (Zbp c))∧w'=w:=by
 go_enter func219,ntmps219
 go_wp2
 all_goals (go_ret;exact⟨Zdn (Bool.eq_iff_iff.2 (by rw[Zh6];simp<;>omega)),rfl⟩)
theorem Zir (c:UInt8)(w:World):Calls prog 85 #[B c] w fun e w'=>e=.returned (.bool (Zc0 c))∧w'=w:=by
 go_enter func85,ntmps85
 go_wp2
 all_goals (go_ret;exact⟨Zdn (Bool.eq_iff_iff.2 (by rw[Zwo];simp<;>omega)),rfl⟩)
theorem Zbo (c:UInt8)(w:World):Calls prog 95 #[B c] w fun e w'=>e=.returned (.bool (Zbp c))∧w'=w:=by
 go_enter func95,ntmps95
 go_wp2
 all_goals (go_ret;exact⟨Zdn (Bool.eq_iff_iff.2 (by rw[Zh6];simp<;>omega)),rfl⟩)
theorem Zbz (c:UInt8)(w:World):Calls prog 96 #[B c] w fun e w'=>e=.returned (.bool (Zav c))∧w'=w:=by
 go_enter func96,ntmps96
 go_wp2
 all_goals (go_ret;exact⟨Zdn (Bool.eq_iff_iff.2 (by rw[Zfq];simp<;>omega)),rfl⟩)
theorem Zgi (c:UInt8)(w:World):Calls prog 137 #[B c] w fun e w'=>e=.returned (.bool (Zc0 c))∧w'=w:=by
 go_enter func137,ntmps137
 go_wp2
 all_goals (go_ret;exact⟨Zdn (Bool.eq_iff_iff.2 (by rw[Zwo];simp<;>omega)),rfl⟩)
theorem Z20 (s:ByteArray)(i:Nat)(h:i<s.size):s.data.toList[i]'(by simpa using h)=s[i]:=rfl
theorem Zuz (s:ByteArray)(w:World)(hs:s.size≤maxLen):
  Calls prog 134 #[.string s,.func (.func 181) #[] #[]] w fun e w'=>e=.returned (.int .i64 (Zbd blank s.data.toList))∧w'=w:=by
 unfold maxLen at hs
 go_enter func134,ntmps134
 go_wp2
 go_loop [8] (fun i=>∃k:Nat,k≤s.size∧i=.int .i64 k∧Hid (∀j (hj:j<k) (hk:j<s.data.toList.length),blank s.data.toList[j]=true)) (fun i=>s.size-(intOf i).toNat)
 case atStart=>exact⟨0,Nat.zero_le _,rfl,fun j hj _=>absurd hj (by omega)⟩
 case round =>
  obtain⟨k,hk,rfl,hall⟩:=hrel
  by_cases hlt:k<s.size
  ·cases hp:blank s[k]
   ·go_wp2_with (go_at_call 181;refine (Zoa s[k] _).mono ?_;rintro e w' ⟨rfl,rfl⟩)
    go_ret
    exact⟨Zd6 (by rw[Zkw blank s.data.toList k (by simpa using hlt) (fun j hj=>hall.out j hj (by simp;omega)) hp]),rfl⟩
   ·go_wp2_with (go_at_call 181;refine (Zoa s[k] _).mono ?_;rintro e w' ⟨rfl,rfl⟩)
    go_round
    case rel =>
     refine⟨k+1,by omega,by go_num,fun j hj hk=>?_⟩
     by_cases e:j=k
     ·subst e;exact hp
     ·exact hall.out j (by omega) hk
    case measure=>simp[intOf];omega
  ·go_wp2
   go_ret
   exact⟨Zd6 (by rw[Zhz blank _ (fun j hj=>hall.out j (by simp at hj;omega) hj)];simp),rfl⟩
theorem Zgt (s:ByteArray)(w:World)(hs:s.size≤maxLen):
  Calls prog 134 #[.string s,.func (.func 203) #[] #[]] w fun e w'=>e=.returned (.int .i64 (Zbd Zav s.data.toList))∧w'=w:=by
 unfold maxLen at hs
 go_enter func134,ntmps134
 go_wp2
 go_loop [8] (fun i=>∃k:Nat,k≤s.size∧i=.int .i64 k∧Hid (∀j (hj:j<k) (hk:j<s.data.toList.length),Zav s.data.toList[j]=true)) (fun i=>s.size-(intOf i).toNat)
 case atStart=>exact⟨0,Nat.zero_le _,rfl,fun j hj _=>absurd hj (by omega)⟩
 case round =>
  obtain⟨k,hk,rfl,hall⟩:=hrel
  by_cases hlt:k<s.size
  ·cases hp:Zav s[k]
   ·go_wp2_with (go_at_call 203;refine (Zfp s[k] _).mono ?_;rintro e w' ⟨rfl,rfl⟩)
    go_ret
    exact⟨Zd6 (by rw[Zkw Zav s.data.toList k (by simpa using hlt) (fun j hj=>hall.out j hj (by simp;omega)) hp]),rfl⟩
   ·go_wp2_with (go_at_call 203;refine (Zfp s[k] _).mono ?_;rintro e w' ⟨rfl,rfl⟩)
    go_round
    case rel =>
     refine⟨k+1,by omega,by go_num,fun j hj hk=>?_⟩
     by_cases e:j=k
     ·subst e;exact hp
     ·exact hall.out j (by omega) hk
    case measure=>simp[intOf];omega
  ·go_wp2
   go_ret
   exact⟨Zd6 (by rw[Zhz Zav _ (fun j hj=>hall.out j (by simp at hj;omega) hj)];simp),rfl⟩
theorem Zlm (s:ByteArray)(w:World)(hs:s.size≤maxLen):
  Calls prog 134 #[.string s,.func (.func 219) #[] #[]] w fun e w'=>e=.returned (.int .i64 (Zbd Zbp s.data.toList))∧w'=w:=by
 unfold maxLen at hs
 go_enter func134,ntmps134
 go_wp2
 go_loop [8] (fun i=>∃k:Nat,k≤s.size∧i=.int .i64 k∧Hid (∀j (hj:j<k) (hk:j<s.data.toList.length),Zbp s.data.toList[j]=true)) (fun i=>s.size-(intOf i).toNat)
 case atStart=>exact⟨0,Nat.zero_le _,rfl,fun j hj _=>absurd hj (by omega)⟩
 case round =>
  obtain⟨k,hk,rfl,hall⟩:=hrel
  by_cases hlt:k<s.size
  ·cases hp:Zbp s[k]
   ·go_wp2_with (go_at_call 219;refine (Zf0 s[k] _).mono ?_;rintro e w' ⟨rfl,rfl⟩)
    go_ret
    exact⟨Zd6 (by rw[Zkw Zbp s.data.toList k (by simpa using hlt) (fun j hj=>hall.out j hj (by simp;omega)) hp]),rfl⟩
   ·go_wp2_with (go_at_call 219;refine (Zf0 s[k] _).mono ?_;rintro e w' ⟨rfl,rfl⟩)
    go_round
    case rel =>
     refine⟨k+1,by omega,by go_num,fun j hj hk=>?_⟩
     by_cases e:j=k
     ·subst e;exact hp
     ·exact hall.out j (by omega) hk
    case measure=>simp[intOf];omega
  ·go_wp2
   go_ret
   exact⟨Zd6 (by rw[Zhz Zbp _ (fun j hj=>hall.out j (by simp at hj;omega) hj)];simp),rfl⟩
theorem Zio (s:ByteArray)(w:World)(hs:s.size≤maxLen):
  Calls prog 134 #[.string s,.func (.func 85) #[] #[]] w fun e w'=>e=.returned (.int .i64 (Zbd Zc0 s.data.toList))∧w'=w:=by
 unfold maxLen at hs
 go_enter func134,ntmps134
 go_wp2
 go_loop [8] (fun i=>∃k:Nat,k≤s.size∧i=.int .i64 k∧Hid (∀j (hj:j<k) (hk:j<s.data.toList.length),Zc0 s.data.toList[j]=true)) (fun i=>s.size-(intOf i).toNat)
 case atStart=>exact⟨0,Nat.zero_le _,rfl,fun j hj _=>absurd hj (by omega)⟩
 case round =>
  obtain⟨k,hk,rfl,hall⟩:=hrel
  by_cases hlt:k<s.size
  ·cases hp:Zc0 s[k]
   ·go_wp2_with (go_at_call 85;refine (Zir s[k] _).mono ?_;rintro e w' ⟨rfl,rfl⟩)
    go_ret
    exact⟨Zd6 (by rw[Zkw Zc0 s.data.toList k (by simpa using hlt) (fun j hj=>hall.out j hj (by simp;omega)) hp]),rfl⟩
   ·go_wp2_with (go_at_call 85;refine (Zir s[k] _).mono ?_;rintro e w' ⟨rfl,rfl⟩)
    go_round
    case rel =>
     refine⟨k+1,by omega,by go_num,fun j hj hk=>?_⟩
     by_cases e:j=k
     ·subst e;exact hp
     ·exact hall.out j (by omega) hk
    case measure=>simp[intOf];omega
  ·go_wp2
   go_ret
   exact⟨Zd6 (by rw[Zhz Zc0 _ (fun j hj=>hall.out j (by simp at hj;omega) hj)];simp),rfl⟩
theorem ext01 (s:ByteArray)(c:UInt8):((s.extract 0 1).toList==[c])=Zad c s.data.toList:=by
 rw[ByteArray.toList_eq,Lib.extract_data]
 cases h:s.data.toList with
 | nil=>simp[Zad]
 | cons a l=>simp[Zad]
theorem Zax (s:ByteArray):s.data.toList.length=s.size:=Array.length_toList
theorem Zhj (s:ByteArray)(c:UInt8)(h:¬ 1≤s.size):Zad c s.data.toList=false:=by
 have:s.data.toList=[]:=List.eq_nil_of_length_eq_zero (by rw[Zax];omega)
 simp[Zad,this]
theorem Zob (s:ByteArray)(w:World)(hs:s.size≤maxLen):
  Calls prog 200 #[.string s,.string ⟨#[39]⟩] w fun e w'=>e=.returned (.bool (Zad 39 s.data.toList))∧w'=w:=by
 unfold maxLen at hs
 by_cases h:1≤s.size
 ·have h2:(1:Int)≤s.size:=by omega
  go_enter func200,ntmps200
  go_wp2
  go_ret
  exact⟨Zdn (ext01 s 39),rfl⟩
 ·have h2:(s.size:Int)<1:=by omega
  have h3:=Zhj s 39 h
  go_enter func200,ntmps200
  go_wp2
  all_goals (go_ret;exact⟨rfl,rfl⟩)
theorem Zet (s:ByteArray)(w:World)(hs:s.size≤maxLen):
  Calls prog 253 #[.string s,.string ⟨#[45]⟩] w fun e w'=>∃r:ByteArray,e=.returned (.string r)∧r.size=(Zaj s.data.toList).length∧r.data.toList=Zaj s.data.toList∧w'=w:=by
 unfold maxLen at hs
 by_cases h:1≤s.size
 ·have h2:(1:Int)≤s.size:=by omega
  have e:=ext01 s 45
  cases hb:Zad 45 s.data.toList
  ·rw[hb] at e
   go_enter func253,ntmps253
   go_wp2
   go_ret
   exact⟨s,rfl,by simp[Zaj,hb],by simp[Zaj,hb],rfl⟩
  ·rw[hb] at e
   go_enter func253,ntmps253
   go_wp2
   go_ret
   exact⟨s.extract 1 s.size,rfl,by simp[Zaj,hb],by rw[Lib.extract_to_end];simp[Zaj,hb],rfl⟩
 ·have h2:(s.size:Int)<1:=by omega
  have h3:=Zhj s 45 h
  go_enter func253,ntmps253
  go_wp2
  all_goals (go_ret;exact⟨s,rfl,by simp[Zaj,h3],by simp[Zaj,h3],rfl⟩)
def lenV (o:Option Nat):Value:=.int .i64 ((o.getD 0:Nat):Int)
def errV (o:Option Nat)(ev:Value):Value:=match o with | some _=>.nilIface | none=>ev
theorem Zn4 (s:ByteArray)(w:World)(ev:Value)(hs:s.size≤maxLen)(hc:w.cell? ⟨3,0,none⟩=some ev):
  Calls prog 220 #[.string s] w fun e w'=>e=.returned (.tuple #[lenV (Zic s.data.toList),errV (Zic s.data.toList) ev])∧∃n,w'=w.drewN n:=by
 have hl:=Zdb Zbp s.data.toList
 have hl2:=Zax s
 have hs':=hs
 unfold maxLen at hs'
 by_cases h:8<Zbd Zbp s.data.toList
 ·have e1:Zic s.data.toList=none:=by simp[Zic,h]
  rw[e1]
  have h2:(8:Int)<(Zbd Zbp s.data.toList:Int):=by omega
  go_enter func220,ntmps220
  go_wp2_with (go_at_call 134;refine (Zlm s _ hs).mono ?_;rintro e w' ⟨rfl,rfl⟩)
  go_quiet (fail)
  go_wp2
  go_ret2
  exact⟨rfl,_,rfl⟩
 ·have e1:Zic s.data.toList=some (Zbd Zbp s.data.toList):=by simp[Zic,h]
  rw[e1]
  have h2:(Zbd Zbp s.data.toList:Int)≤8:=by omega
  go_enter func220,ntmps220
  go_wp2_with (go_at_call 134;refine (Zlm s _ hs).mono ?_;rintro e w' ⟨rfl,rfl⟩)
  go_ret2
  exact⟨rfl,0,rfl⟩
theorem Zk1 (s:ByteArray)(w:World)(ev:Value)(hs:s.size≤maxLen)(hc:w.cell? ⟨3,0,none⟩=some ev):
  Calls prog 218 #[.string s] w fun e w'=>e=.returned (.tuple #[lenV (Znx s.data.toList),errV (Znx s.data.toList) ev])∧∃n,w'=w.drewN n:=by
 have hl:=Zdb Zav (Zaj s.data.toList)
 have hl2:=Zax s
 have hl3:=Zki s.data.toList
 have hs':=hs
 unfold maxLen at hs'
 by_cases h0:Zbd Zav (Zaj s.data.toList)=0
 ·have e1:Znx s.data.toList=none:=by simp[Znx,h0]
  rw[e1]
  have h00:((Zbd Zav (Zaj s.data.toList):Nat):Int)=0:=by omega
  clear h0
  go_enter func218,ntmps218
  go_wp2_with (first
   |(go_at_call 253;refine (Zet s _ hs).mono ?_;rintro e w' ⟨r,rfl,hr1,hr2,rfl⟩)
   |(go_at_call 134;refine (Zgt r _ (by omega)).mono ?_;rw[hr2];rintro e w' ⟨rfl,rfl⟩))
  go_quiet (fail)
  go_wp2
  go_ret2
  exact⟨rfl,_,rfl⟩
 by_cases h:9<Zbd Zav (Zaj s.data.toList)
 ·have e1:Znx s.data.toList=none:=by simp[Znx,h]
  rw[e1]
  have h2:(9:Int)<(Zbd Zav (Zaj s.data.toList):Int):=by omega
  have h3:((Zbd Zav (Zaj s.data.toList):Int)==0)=false:=by simpa using h0
  clear h0
  go_enter func218,ntmps218
  go_wp2_with (first
   |(go_at_call 253;refine (Zet s _ hs).mono ?_;rintro e w' ⟨r,rfl,hr1,hr2,rfl⟩)
   |(go_at_call 134;refine (Zgt r _ (by omega)).mono ?_;rw[hr2];rintro e w' ⟨rfl,rfl⟩))
  go_quiet (fail)
  go_wp2
  go_ret2
  exact⟨rfl,_,rfl⟩
 ·have e1:Znx s.data.toList=some (s.data.toList.length-(Zaj s.data.toList).length+Zbd Zav (Zaj s.data.toList)):=by simp only[Znx,h0,h,or_self,if_false]
  rw[e1]
  have h2:(Zbd Zav (Zaj s.data.toList):Int)≤9:=by omega
  have h3:((Zbd Zav (Zaj s.data.toList):Int)==0)=false:=by simpa using h0
  clear h0 h
  go_enter func218,ntmps218
  go_wp2_with (first
   |(go_at_call 253;refine (Zet s _ hs).mono ?_;rintro e w' ⟨r,rfl,hr1,hr2,rfl⟩)
   |(go_at_call 134;refine (Zgt r _ (by omega)).mono ?_;rw[hr2];rintro e w' ⟨rfl,rfl⟩))
  go_ret2
  refine⟨?_,0,rfl⟩
  simp only[lenV,errV,Option.getD_some]
  rw[show ((s.data.toList.length-(Zaj s.data.toList).length+Zbd Zav (Zaj s.data.toList):Nat):Int)=(s.size:Int)-(Zaj s.data.toList).length+Zbd Zav (Zaj s.data.toList) by omega]
  rfl
theorem Zn5 (s:ByteArray)(w:World)(ev:Value)(hs:s.size≤maxLen)(h1:1≤s.size)(hc:w.cell? ⟨3,0,none⟩=some ev):
  Calls prog 217 #[.string s] w fun e w'=>e=.returned (.tuple #[lenV (Zg8 s.data.toList),errV (Zg8 s.data.toList) ev])∧∃n,w'=w.drewN n:=by
 have hl:=Zdb Zc0 (s.data.toList.drop 1)
 have hl2:=Zax s
 have hs':=hs
 unfold maxLen at hs'
 have er:(s.extract 1 s.size).data.toList=s.data.toList.drop 1:=Lib.extract_to_end s 1
 have ez:(s.extract 1 s.size).size≤maxLen:=by simp;omega
 rw[List.length_drop] at hl
 have cr:=fun w=>Zio (s.extract 1 s.size) w ez
 rw[er] at cr
 generalize hm:Zbd Zc0 (s.data.toList.drop 1)=m at *
 have cp:=fun w=>Zob (s.extract (1+m) s.size) w (by simp[maxLen];omega)
 have ep:(s.extract (1+m) s.size).data.toList=(s.data.toList.drop 1).drop m:=by rw[Lib.extract_to_end,List.drop_drop]
 rw[ep] at cp
 by_cases h:20<m
 ·have e1:Zg8 s.data.toList=none:=by simp only[Zg8,hm,h,true_or,if_true]
  rw[e1]
  clear cp ep hm er
  go_enter func217,ntmps217
  go_wp2_with (go_at_call 134;refine (cr _).mono ?_;rintro e w' ⟨rfl,rfl⟩)
  go_quiet (fail)
  go_wp2
  go_ret2
  exact⟨rfl,_,rfl⟩
 ·cases hq:Zad 39 ((s.data.toList.drop 1).drop m)
  ·have e1:Zg8 s.data.toList=none:=by simp only[Zg8,hm,hq,or_true,if_true]
   rw[e1]
   rw[hq] at cp
   clear hq ep hm er
   go_enter func217,ntmps217
   go_wp2_with (first | (go_at_call 134;refine (cr _).mono ?_;rintro e w' ⟨rfl,rfl⟩) | (go_at_call 200;refine (cp _).mono ?_;rintro e w' ⟨rfl,rfl⟩))
   go_quiet (fail)
   go_wp2
   go_ret2
   exact⟨rfl,_,rfl⟩
  ·have e1:Zg8 s.data.toList=some (m+2):=by simp only[Zg8,hm,hq,h,Bool.true_eq_false,or_self,if_false]
   rw[e1]
   rw[hq] at cp
   clear hq ep hm er
   go_enter func217,ntmps217
   go_wp2_with (first | (go_at_call 134;refine (cr _).mono ?_;rintro e w' ⟨rfl,rfl⟩) | (go_at_call 200;refine (cp _).mono ?_;rintro e w' ⟨rfl,rfl⟩))
   go_ret2
   exact⟨rfl,0,rfl⟩
def Zbq:K→Int
 | .eof=>0 | .opn=>1 | .cls=>2 | .num=>3 | .txt=>4 | .word=>5 | .bad=>6
def Zww (m:K×Nat)(ev:Value)(e:Ending):Prop :=
 match m.1 with
 | .bad=>∃a b:Int,e=.returned (.tuple #[.int .i64 a,.int .i64 b,ev])
 | k=>e=.returned (.tuple #[.int .i64 (Zbq k),.int .i64 ((m.2:Nat):Int),.nilIface])
theorem Ze7 (k:K)(hk:k≠.bad)(o:Option Nat)(ev:Value):Zww (Zb6 k o) ev (.returned (.tuple #[.int .i64 (Zbq k),lenV o,errV o ev])):=by
 cases o with
 | none=>exact⟨_,_,rfl⟩
 | some n=>cases k<;>first | rfl | exact absurd rfl hk
theorem Zvj (s:ByteArray)(w:World)(ev:Value)(hs:s.size≤maxLen)(hc:w.cell? ⟨3,0,none⟩=some ev):
  Calls prog 182 #[.string s] w fun e w'=>Zww (Zal s.data.toList) ev e∧∃n,w'=w.drewN n:=by
 have hl2:=Zax s
 have hs':=hs
 unfold maxLen at hs'
 by_cases h0:s.size=0
 ·have e0:s.data.toList=[]:=List.eq_nil_of_length_eq_zero (by omega)
  have e1:s.toList.isEmpty=true:=by rw[ByteArray.toList_eq,e0];rfl
  rw[e0]
  clear e0
  go_enter func182,ntmps182
  go_wp2
  go_ret3
  exact⟨rfl,0,rfl⟩
 have h1:1≤s.size:=by omega
 obtain⟨c,r,hcr⟩:∃c r,s.data.toList=c::r:=by
  cases h:s.data.toList with
  | nil=>rw[h] at hl2;simp at hl2;omega
  | cons c r=>exact⟨c,r,rfl⟩
 have hs0:s[0]=c:=by
  have:=Z20 s 0 (by omega)
  simpa[hcr] using this.symm
 have e1:s.toList.isEmpty=false:=by rw[ByteArray.toList_eq,hcr];rfl
 have cw:=fun w hc=>Zn4 s w ev hs hc
 have cn:=fun w hc=>Zk1 s w ev hs hc
 have ct:=fun w hc=>Zn5 s w ev hs h1 hc
 rw[hcr] at cw cn ct ⊢
 clear hcr hl2 h0
 have hi:(0:Int)<s.size:=by omega
 have bn:∀k:UInt8,¬ c=k→((c.toNat:Int)==(k.toNat:Int))=false:=fun k hk=>by
  have:c.toNat≠k.toNat:=fun e=>hk (UInt8.toNat_inj.1 e)
  simp;omega
 by_cases a1:c=40
 ·subst a1
  go_enter func182,ntmps182
  go_wp2
  go_ret3
  exact⟨rfl,0,rfl⟩
 by_cases a2:c=41
 ·subst a2
  go_enter func182,ntmps182
  go_wp2
  go_ret3
  exact⟨rfl,0,rfl⟩
 by_cases a3:c=39
 ·subst a3
  go_enter func182,ntmps182
  go_wp2_with (go_at_call 217;refine (ct _ hc).mono ?_;rintro e w' ⟨rfl,n,rfl⟩)
  go_ret3
  exact⟨Ze7 .txt (by decide) _ ev,n,rfl⟩
 have b1:((c.toNat:Int)==40)=false:=bn 40 a1
 have b2:((c.toNat:Int)==41)=false:=bn 41 a2
 have b3:((c.toNat:Int)==39)=false:=bn 39 a3
 have f1:(c==40)=false:=by simpa using a1
 have f2:(c==41)=false:=by simpa using a2
 have f3:(c==39)=false:=by simpa using a3
 clear a1 a2 a3
 by_cases a4:c=45
 ·subst a4
  clear b1 b2 b3 f1 f2 f3 bn
  go_enter func182,ntmps182
  go_wp2_with (go_at_call 218;refine (cn _ hc).mono ?_;rintro e w' ⟨rfl,n,rfl⟩)
  go_ret3
  exact⟨Ze7 .num (by decide) _ ev,n,rfl⟩
 have b4:((c.toNat:Int)==45)=false:=bn 45 a4
 have f4:(c==45)=false:=by simpa using a4
 clear a4 bn
 cases a5:Zav c
 ·cases a6:Zbp c
  ·have em:Hid (Zal (c::r)=(.bad,0)):=show Zal (c::r)=(.bad,0) by simp[Zal,f1,f2,f3,f4,a5,a6]
   clear f1 f2 f3 f4
   go_enter func182,ntmps182
   go_wp2_with (first | (go_at_call 203;refine (Zfp c _).mono ?_;rintro e w' ⟨rfl,rfl⟩) | (go_at_call 219;refine (Zf0 c _).mono ?_;rintro e w' ⟨rfl,rfl⟩))
   go_quiet (fail)
   go_wp2
   go_ret3
   exact⟨by rw[em.out];exact⟨_,_,rfl⟩,_,rfl⟩
  ·have em:Hid (Zal (c::r)=Zb6 .word (Zic (c::r))):=show Zal (c::r)=_ by simp[Zal,f1,f2,f3,f4,a5,a6]
   clear f1 f2 f3 f4
   go_enter func182,ntmps182
   go_wp2_with (first | (go_at_call 203;refine (Zfp c _).mono ?_;rintro e w' ⟨rfl,rfl⟩) | (go_at_call 219;refine (Zf0 c _).mono ?_;rintro e w' ⟨rfl,rfl⟩) | (go_at_call 220;refine (cw _ hc).mono ?_;rintro e w' ⟨rfl,n,rfl⟩))
   go_ret3
   exact⟨by rw[em.out];exact Ze7 .word (by decide) _ ev,n,rfl⟩
 ·have em:Hid (Zal (c::r)=Zb6 .num (Znx (c::r))):=show Zal (c::r)=_ by simp[Zal,f1,f2,f3,f4,a5]
  clear f1 f2 f3 f4
  go_enter func182,ntmps182
  go_wp2_with (first | (go_at_call 203;refine (Zfp c _).mono ?_;rintro e w' ⟨rfl,rfl⟩) | (go_at_call 218;refine (cn _ hc).mono ?_;rintro e w' ⟨rfl,n,rfl⟩))
  go_ret3
  exact⟨by rw[em.out];exact Ze7 .num (by decide) _ ev,n,rfl⟩
def Zmf (k:K)(l:List UInt8):List UInt8:=match k with
 | .txt=>(l.drop 1).take (l.length-2)
 | _=>l
theorem body_txt (s:ByteArray)(w:World)(hs:s.size≤maxLen)(h2:2≤s.size):
  Calls prog 183 #[.int .i64 4,.string s] w fun e w'=>(∃b:ByteArray,e=.returned (.string b)∧b.data.toList=Zmf .txt s.data.toList∧b.size≤s.size)∧w'=w:=by
 unfold maxLen at hs
 have e1:((s.size:Int)-1)=((s.size-1:Nat):Int):=by omega
 go_enter func183,ntmps183
 go_wp2
 go_ret
 refine⟨⟨s.extract 1 (s.size-1),rfl,?_,?_⟩,rfl⟩
 ·rw[Lib.extract_data,Zmf,Zax]
  rfl
 ·simp
  omega
theorem Zzn (k:K)(hk:k≠.txt)(s:ByteArray)(w:World):
  Calls prog 183 #[.int .i64 (Zbq k),.string s] w fun e w'=>(∃b:ByteArray,e=.returned (.string b)∧b.data.toList=Zmf k s.data.toList∧b.size≤s.size)∧w'=w:=by
 cases k
 all_goals first | exact absurd rfl hk | skip
 all_goals
  go_enter func183,ntmps183
  go_wp2
  go_ret
  exact⟨⟨s,rfl,rfl,Nat.le_refl _⟩,rfl⟩
end Go.Proofs.YtliapghpeoaonaaGreatDoor
