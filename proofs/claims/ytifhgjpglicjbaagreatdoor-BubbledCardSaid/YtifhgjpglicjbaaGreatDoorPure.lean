/-
  Plain functions on bytes and tokens: what the document says of tokens, grammar and names. No model in it.
-/
import Derived.Test.YtifhgjpglicjbaaGreatDoorRows
import Derived.WalkKit
import Derived.WalkSpells
import Derived.WalkLawsBesides
import Derived.Deep.QuietTactic
import Derived.BigQuiet
import Derived.Lib.IndexBytes
import Derived.WalkSmall
set_option maxHeartbeats 1000000
namespace Go.Proofs.YtifhgjpglicjbaaGreatDoor
open Go.Proofs.Tryz
def blank (b:UInt8):Bool:=b==32 || b==10
def digit (b:UInt8):Bool:=48≤b&&b≤57
def letter (b:UInt8):Bool:=97≤b&&b≤122
def quot (b:UInt8):Bool:=32≤b&&b≤126&&b != 39
def runL (p:UInt8→Bool)(l:List UInt8):Nat:=(l.takeWhile p).length
theorem runL_le (p:UInt8→Bool)(l:List UInt8):runL p l≤l.length:=by
 unfold runL
 induction l with
 | nil=>simp
 | cons a l ih =>
  simp only[List.takeWhile_cons,List.length_cons]
  split<;>simp<;>omega
theorem runL_cons_true (p:UInt8→Bool)(a:UInt8)(l:List UInt8)(h:p a=true):runL p (a::l)=runL p l+1:=by simp[runL,h]
theorem runL_cons_false (p:UInt8→Bool)(a:UInt8)(l:List UInt8)(h:p a=false):runL p (a::l)=0:=by simp[runL,h]
theorem runL_at (p:UInt8→Bool):∀(l:List UInt8) (i:Nat) (h:i<l.length),(∀j (hj:j<i),p (l[j]'(by omega))=true)→p l[i]=false→runL p l=i
 | [],i,h,_,_=>by simp at h
 | a::l,0,_,_,hf=>by simp at hf;simp[runL,hf]
 | a::l,i+1,h,ht,hf=>by
  have h0:=ht 0 (by omega)
  simp at h0
  have:=runL_at p l i (by simpa using h) (fun j hj=>by simpa using ht (j+1) (by omega)) (by simpa using hf)
  simp only[runL,List.takeWhile_cons,h0,if_true,List.length_cons] at this ⊢
  omega
theorem runL_all (p:UInt8→Bool):∀(l:List UInt8),(∀j (hj:j<l.length),p l[j]=true)→runL p l=l.length
 | [],_=>rfl
 | a::l,ht=>by
  have h0:=ht 0 (by simp)
  simp at h0
  have:=runL_all p l (fun j hj=>ht (j+1) (by simp;omega))
  rw[runL_cons_true p a l h0,this]
  rfl
inductive K where
 | eof | opn | cls | num | txt | word | bad
 deriving DecidableEq
def startsB (c:UInt8)(l:List UInt8):Bool:=l[0]?==some c
def unsignL (l:List UInt8):List UInt8:=if startsB 45 l then l.drop 1 else l
theorem unsign_len (l:List UInt8):(unsignL l).length≤l.length:=by
 unfold unsignL;split<;>simp
def textL (l:List UInt8):Option Nat:=if 20<runL quot (l.drop 1)∨startsB 39 ((l.drop 1).drop (runL quot (l.drop 1)))=false then none else some (runL quot (l.drop 1)+2)
def numL (l:List UInt8):Option Nat:=if runL digit (unsignL l)=0∨9<runL digit (unsignL l) then none else some (l.length-(unsignL l).length+runL digit (unsignL l))
def wordL (l:List UInt8):Option Nat:=if 8<runL letter l then none else some (runL letter l)
def kindOf (k:K):Option Nat→K×Nat
 | none=>(.bad,0)
 | some n=>(k,n)
def measureL:List UInt8→K×Nat
 | []=>(.eof,0)
 | c::r =>
  if c==40 then (.opn,1)
  else if c==41 then (.cls,1)
  else if c==39 then kindOf .txt (textL (c::r))
  else if c==45 || digit c then kindOf .num (numL (c::r))
  else if letter c then kindOf .word (wordL (c::r))
  else (.bad,0)
structure Tok where
 k:K
 at_:Nat
 body:List UInt8
def nextTok (s:List UInt8)(p:Nat):Tok :=
 let j:=p+runL blank (s.drop p)
 let m:=measureL (s.drop j)
 ⟨m.1,j,(s.drop j).take m.2⟩
inductive IsToks (s:List UInt8):Nat→List Tok→Prop where
 | last {p:Nat}:((nextTok s p).k=.eof∨(nextTok s p).k=.bad)→IsToks s p [nextTok s p]
 | more {p:Nat} {ts:List Tok}:(nextTok s p).k≠.eof→(nextTok s p).k≠.bad→IsToks s ((nextTok s p).at_+(nextTok s p).body.length) ts→IsToks s p (nextTok s p::ts)
theorem textL_pos {l:List UInt8}{n:Nat}(h:textL l=some n):0<n∧n≤l.length:=by
 unfold textL at h
 split at h
 ·cases h
 ·rename_i hh
  simp only[Option.some.injEq] at h
  have e:startsB 39 ((l.drop 1).drop (runL quot (l.drop 1)))=true:=by
   cases g:startsB 39 ((l.drop 1).drop (runL quot (l.drop 1)))
   ·exact absurd (Or.inr g) hh
   ·rfl
  simp only[startsB,List.getElem?_drop,beq_iff_eq] at e
  have:=(List.getElem?_eq_some_iff.1 e).1
  omega
theorem numL_pos {l:List UInt8}{n:Nat}(h:numL l=some n):0<n∧n≤l.length:=by
 have h1:=unsign_len l
 have h2:=runL_le digit (unsignL l)
 unfold numL at h
 split at h
 ·cases h
 ·rename_i hh
  simp only[Option.some.injEq] at h
  omega
theorem wordL_le {l:List UInt8}{n:Nat}(h:wordL l=some n):n=runL letter l∧n≤l.length:=by
 have h2:=runL_le letter l
 unfold wordL at h
 split at h
 ·cases h
 ·simp only[Option.some.injEq] at h
  omega
theorem measureL_pos (l:List UInt8)(h1:(measureL l).1≠.eof)(h2:(measureL l).1≠.bad):0<(measureL l).2∧(measureL l).2≤l.length:=by
 cases l with
 | nil=>simp[measureL] at h1
 | cons c r =>
  simp only[measureL] at h1 h2 ⊢
  split
  ·simp
  split
  ·simp
  rename_i a1 a2
  simp only[a1,a2,if_false,Bool.false_eq_true] at h1 h2
  split
  ·rename_i a3
   simp only[a3,if_true] at h2
   cases g:textL (c::r) with
   | none=>simp[g,kindOf] at h2
   | some n=>exact textL_pos g
  rename_i a3
  simp only[a3,if_false,Bool.false_eq_true] at h1 h2
  split
  ·rename_i a4
   simp only[a4,if_true] at h2
   cases g:numL (c::r) with
   | none=>simp[g,kindOf] at h2
   | some n=>exact numL_pos g
  rename_i a4
  simp only[a4,if_false,Bool.false_eq_true] at h1 h2
  split
  ·rename_i a5
   simp only[a5,if_true] at h2
   cases g:wordL (c::r) with
   | none=>simp[g,kindOf] at h2
   | some n =>
    have e:=wordL_le g
    have:=runL_cons_true letter c r a5
    simp only[kindOf]
    omega
  ·rename_i a5
   simp[a5] at h2
theorem kindOf_fst {k x:K}{o:Option Nat}(h:(kindOf k o).1=x)(hx:x≠.bad):k=x∧∃n,o=some n∧(kindOf k o).2=n:=by
 cases o with
 | none=>exact absurd h.symm hx
 | some n=>exact⟨h,n,rfl,rfl⟩
theorem measureL_txt (l:List UInt8)(h:(measureL l).1=.txt):2≤(measureL l).2:=by
 cases l with
 | nil=>simp[measureL] at h
 | cons c r =>
  simp only[measureL] at h ⊢
  split at h
  ·cases h
  split at h
  ·cases h
  rename_i a1 a2
  simp only[a1,a2,if_false,Bool.false_eq_true]
  split at h
  ·rename_i a3
   simp only[a3,if_true]
   obtain⟨_,n,h1,h2⟩:=kindOf_fst h (by decide)
   rw[h2]
   unfold textL at h1
   split at h1
   ·cases h1
   ·simp only[Option.some.injEq] at h1
    omega
  split at h
  ·exact absurd (kindOf_fst h (by decide)).1 (by decide)
  split at h
  ·exact absurd (kindOf_fst h (by decide)).1 (by decide)
  ·cases h
theorem measureL_eof (l:List UInt8)(h:(measureL l).1=.eof):l=[]∧(measureL l).2=0:=by
 cases l with
 | nil=>exact⟨rfl,rfl⟩
 | cons c r =>
  simp only[measureL] at h
  split at h
  ·cases h
  split at h
  ·cases h
  split at h
  ·exact absurd (kindOf_fst h (by decide)).1 (by decide)
  split at h
  ·exact absurd (kindOf_fst h (by decide)).1 (by decide)
  split at h
  ·exact absurd (kindOf_fst h (by decide)).1 (by decide)
  ·cases h
theorem nextTok_len (s:List UInt8)(p:Nat)(hp:p≤s.length)(h1:(nextTok s p).k≠.eof)(h2:(nextTok s p).k≠.bad):
  p<(nextTok s p).at_+(nextTok s p).body.length∧(nextTok s p).at_+(nextTok s p).body.length≤s.length∧(nextTok s p).body.length=(measureL (s.drop (nextTok s p).at_)).2∧p≤(nextTok s p).at_:=by
 have hm:=measureL_pos (s.drop (p+runL blank (s.drop p))) h1 h2
 have hr:=runL_le blank (s.drop p)
 simp only[List.length_drop] at hm hr
 simp only[nextTok,List.length_take,List.length_drop]
 omega
theorem nextTok_at (s:List UInt8)(p:Nat)(hp:p≤s.length):p≤(nextTok s p).at_∧(nextTok s p).at_≤s.length:=by
 have hr:=runL_le blank (s.drop p)
 simp only[List.length_drop] at hr
 simp only[nextTok]
 omega
theorem isToks_some (s:List UInt8):∀(n p:Nat),p≤s.length→s.length-p≤n→∃ts,IsToks s p ts
 | n,p,hp,hn=>by
  by_cases h1:(nextTok s p).k=.eof
  ·exact⟨_,.last (Or.inl h1)⟩
  by_cases h2:(nextTok s p).k=.bad
  ·exact⟨_,.last (Or.inr h2)⟩
  obtain⟨g1,g2,_⟩:=nextTok_len s p hp h1 h2
  cases n with
  | zero=>omega
  | succ n =>
   obtain⟨ts,ht⟩:=isToks_some s n _ g2 (by omega)
   exact⟨_,.more h1 h2 ht⟩
theorem IsToks.len {s:List UInt8}:∀{p:Nat} {ts:List Tok},IsToks s p ts→p≤s.length→ts.length+p≤s.length+1:=by
 intro p ts h
 induction h with
 | last _=>intro hp;simp;omega
 | more h1 h2 _ ih =>
  intro hp
  obtain⟨g1,g2,_⟩:=nextTok_len s _ hp h1 h2
  have:=ih g2
  simp;omega
theorem IsToks.ne {s:List UInt8}{p:Nat}{ts:List Tok}(h:IsToks s p ts):∃t r,ts=t::r:=by
 cases h with
 | last _=>exact⟨_,_,rfl⟩
 | more _ _ _=>exact⟨_,_,rfl⟩
theorem nextTok_blank (s:List UInt8)(p:Nat)(hp:p<s.length)(hb:blank s[p]=true):nextTok s p=nextTok s (p+1):=by
 have e:s.drop p=s[p]::s.drop (p+1):=List.drop_eq_getElem_cons hp
 have e2:runL blank (s.drop p)=runL blank (s.drop (p+1))+1:=by rw[e];exact runL_cons_true blank _ _ hb
 simp only[nextTok,e2]
 rw[show p+(runL blank (s.drop (p+1))+1)=p+1+runL blank (s.drop (p+1)) by omega]
theorem IsToks.blank {s:List UInt8}{p:Nat}{ts:List Tok}(h:IsToks s p ts)(hp:p<s.length)(hb:blank s[p]=true):IsToks s (p+1) ts:=by
 have e:=nextTok_blank s p hp hb
 cases h with
 | last h=>rw[e] at h ⊢;exact .last h
 | more h1 h2 h3=>rw[e] at h1 h2 h3 ⊢;exact .more h1 h2 h3
theorem nextTok_here (s:List UInt8)(p:Nat)(h:∀hp:p<s.length,blank s[p]=false):nextTok s p=⟨(measureL (s.drop p)).1,p,(s.drop p).take (measureL (s.drop p)).2⟩:=by
 have:runL blank (s.drop p)=0:=by
  by_cases hp:p<s.length
  ·rw[List.drop_eq_getElem_cons hp];exact runL_cons_false blank _ _ (h hp)
  ·rw[List.drop_eq_nil_of_le (by omega)];rfl
 simp[nextTok,this]
def shapeL (l:List UInt8):Option (Bool×Int) :=
 if l==[108,105,115,116] then some (false,-1)
 else if l==[99,97,108,108] then some (true,-1)
 else if l==[109,97,112] then some (true,1)
 else if l==[108,101,116] then some (true,2)
 else if l==[105,102] then some (false,3)
 else if l==[115,101,116] then some (false,3)
 else if l==[108,101,110] then some (false,1)
 else if l==[97,100,100] then some (false,2)
 else if l==[115,117,98] then some (false,2)
 else if l==[109,117,108] then some (false,2)
 else if l==[101,113] then some (false,2)
 else if l==[108,101,115,115] then some (false,2)
 else if l==[97,116] then some (false,2)
 else if l==[106,111,105,110] then some (false,2)
 else none
def reservedL (l:List UInt8):Bool:=(shapeL l).isSome || l==[102,117,110]
theorem shape_cases (l:List UInt8):l=[108,105,115,116]∨l=[99,97,108,108]∨l=[109,97,112]∨l=[108,101,116]∨l=[105,102]∨l=[115,101,116]∨l=[108,101,110]∨l=[97,100,100]∨l=[115,117,98]∨l=[109,117,108]∨l=[101,113]∨l=[108,101,115,115]∨l=[97,116]∨l=[106,111,105,110]∨(shapeL l=none∧(l==[108,105,115,116])=false∧(l==[99,97,108,108])=false∧(l==[109,97,112])=false∧(l==[108,101,116])=false∧(l==[105,102])=false∧(l==[115,101,116])=false∧(l==[108,101,110])=false∧(l==[97,100,100])=false∧(l==[115,117,98])=false∧(l==[109,117,108])=false∧(l==[101,113])=false∧(l==[108,101,115,115])=false∧(l==[97,116])=false∧(l==[106,111,105,110])=false):=by
 by_cases h0:l=[108,105,115,116]
 ·simp[h0]
 by_cases h1:l=[99,97,108,108]
 ·simp[h1]
 by_cases h2:l=[109,97,112]
 ·simp[h2]
 by_cases h3:l=[108,101,116]
 ·simp[h3]
 by_cases h4:l=[105,102]
 ·simp[h4]
 by_cases h5:l=[115,101,116]
 ·simp[h5]
 by_cases h6:l=[108,101,110]
 ·simp[h6]
 by_cases h7:l=[97,100,100]
 ·simp[h7]
 by_cases h8:l=[115,117,98]
 ·simp[h8]
 by_cases h9:l=[109,117,108]
 ·simp[h9]
 by_cases h10:l=[101,113]
 ·simp[h10]
 by_cases h11:l=[108,101,115,115]
 ·simp[h11]
 by_cases h12:l=[97,116]
 ·simp[h12]
 by_cases h13:l=[106,111,105,110]
 ·simp[h13]
 have g:shapeL l=none:=by simp[shapeL,h0,h1,h2,h3,h4,h5,h6,h7,h8,h9,h10,h11,h12,h13]
 simp[g,h0,h1,h2,h3,h4,h5,h6,h7,h8,h9,h10,h11,h12,h13]
theorem shape_bounds {l:List UInt8}{b:Bool}{m:Int}(h:shapeL l=some (b,m)):-1≤m∧m≤3:=by
 rcases shape_cases l with g | g | g | g | g | g | g | g | g | g | g | g | g | g | ⟨g,_⟩
 all_goals first
  |(subst g;simp[shapeL] at h;omega)
  |(rw[g] at h;cases h)
end Go.Proofs.YtifhgjpglicjbaaGreatDoor
namespace Go.Proofs.YtifhgjpglicjbaaGreatDoor
open Go.Proofs.Tryz
open Go.RowKit
abbrev B (c:UInt8):Value:=.int .u8 (c.toNat:Int)
theorem ret_bool {a b:Bool}(h:a=b):Ending.returned (.bool a)=.returned (.bool b):=by rw[h]
theorem ret_int {k:IntKind}{a b:Int}(h:a=b):Ending.returned (.int k a)=.returned (.int k b):=by rw[h]
theorem blank_iff (c:UInt8):blank c=true ↔ (c.toNat:Int)=32∨(c.toNat:Int)=10:=by
 simp[blank,←UInt8.toNat_inj];omega
theorem digit_iff (c:UInt8):digit c=true ↔ 48≤(c.toNat:Int)∧(c.toNat:Int)≤57:=by
 simp[digit,UInt8.le_iff_toNat_le];omega
theorem letter_iff (c:UInt8):letter c=true ↔ 97≤(c.toNat:Int)∧(c.toNat:Int)≤122:=by
 simp[letter,UInt8.le_iff_toNat_le];omega
theorem quot_iff (c:UInt8):quot c=true ↔ (32≤(c.toNat:Int)∧(c.toNat:Int)≤126)∧(c.toNat:Int)≠39:=by
 simp[quot,UInt8.le_iff_toNat_le,←UInt8.toNat_inj];omega
theorem isBlank_any (c:UInt8)(w:World):Calls prog 94 #[B c] w fun e w'=>e=.returned (.bool (blank c))∧w'=w:=by
 go_enter func94,ntmps94
 go_wp2
 all_goals (go_ret;exact⟨ret_bool (Bool.eq_iff_iff.2 (by rw[blank_iff];simp<;>omega)),rfl⟩)
theorem isDigit_any (c:UInt8)(w:World):Calls prog 129 #[B c] w fun e w'=>e=.returned (.bool (digit c))∧w'=w:=by
 go_enter func129,ntmps129
 go_wp2
 all_goals (go_ret;exact⟨ret_bool (Bool.eq_iff_iff.2 (by rw[digit_iff];simp<;>omega)),rfl⟩)
theorem isLetter_any (c:UInt8)(w:World):Calls prog 131 #[B c] w fun e w'=>e=.returned (.bool (letter c))∧w'=w:=by
 go_enter func131,ntmps131
 go_wp2
 all_goals (go_ret;exact⟨ret_bool (Bool.eq_iff_iff.2 (by rw[letter_iff];simp<;>omega)),rfl⟩)
theorem isQuotable_any (c:UInt8)(w:World):Calls prog 42 #[B c] w fun e w'=>e=.returned (.bool (quot c))∧w'=w:=by
 go_enter func42,ntmps42
 go_wp2
 all_goals (go_ret;exact⟨ret_bool (Bool.eq_iff_iff.2 (by rw[quot_iff];simp<;>omega)),rfl⟩)
theorem data_at (s:ByteArray)(i:Nat)(h:i<s.size):s.data.toList[i]'(by simpa using h)=s[i]:=rfl
theorem run_isBlank (s:ByteArray)(w:World)(hs:s.size≤maxLen):
  Calls prog 62 #[.string s,.func (.func 94) #[] #[]] w fun e w'=>e=.returned (.int .i64 (runL blank s.data.toList))∧w'=w:=by
 unfold maxLen at hs
 go_enter func62,ntmps62
 go_wp2
 go_loop [8] (fun i=>∃k:Nat,k≤s.size∧i=.int .i64 k∧Hid (∀j (hj:j<k) (hk:j<s.data.toList.length),blank s.data.toList[j]=true)) (fun i=>s.size-(intOf i).toNat)
 case atStart=>exact⟨0,Nat.zero_le _,rfl,fun j hj _=>absurd hj (by omega)⟩
 case round =>
  obtain⟨k,hk,rfl,hall⟩:=hrel
  by_cases hlt:k<s.size
  ·cases hp:blank s[k]
   ·go_wp2_with (go_at_call 94;refine (isBlank_any s[k] _).mono ?_;rintro e w' ⟨rfl,rfl⟩)
    go_ret
    exact⟨ret_int (by rw[runL_at blank s.data.toList k (by simpa using hlt) (fun j hj=>hall.out j hj (by simp;omega)) hp]),rfl⟩
   ·go_wp2_with (go_at_call 94;refine (isBlank_any s[k] _).mono ?_;rintro e w' ⟨rfl,rfl⟩)
    go_round
    case rel =>
     refine⟨k+1,by omega,by go_num,fun j hj hk=>?_⟩
     by_cases e:j=k
     ·subst e;exact hp
     ·exact hall.out j (by omega) hk
    case measure=>simp[intOf];omega
  ·go_wp2
   go_ret
   exact⟨ret_int (by rw[runL_all blank _ (fun j hj=>hall.out j (by simp at hj;omega) hj)];simp),rfl⟩
theorem run_isDigit (s:ByteArray)(w:World)(hs:s.size≤maxLen):
  Calls prog 62 #[.string s,.func (.func 129) #[] #[]] w fun e w'=>e=.returned (.int .i64 (runL digit s.data.toList))∧w'=w:=by
 unfold maxLen at hs
 go_enter func62,ntmps62
 go_wp2
 go_loop [8] (fun i=>∃k:Nat,k≤s.size∧i=.int .i64 k∧Hid (∀j (hj:j<k) (hk:j<s.data.toList.length),digit s.data.toList[j]=true)) (fun i=>s.size-(intOf i).toNat)
 case atStart=>exact⟨0,Nat.zero_le _,rfl,fun j hj _=>absurd hj (by omega)⟩
 case round =>
  obtain⟨k,hk,rfl,hall⟩:=hrel
  by_cases hlt:k<s.size
  ·cases hp:digit s[k]
   ·go_wp2_with (go_at_call 129;refine (isDigit_any s[k] _).mono ?_;rintro e w' ⟨rfl,rfl⟩)
    go_ret
    exact⟨ret_int (by rw[runL_at digit s.data.toList k (by simpa using hlt) (fun j hj=>hall.out j hj (by simp;omega)) hp]),rfl⟩
   ·go_wp2_with (go_at_call 129;refine (isDigit_any s[k] _).mono ?_;rintro e w' ⟨rfl,rfl⟩)
    go_round
    case rel =>
     refine⟨k+1,by omega,by go_num,fun j hj hk=>?_⟩
     by_cases e:j=k
     ·subst e;exact hp
     ·exact hall.out j (by omega) hk
    case measure=>simp[intOf];omega
  ·go_wp2
   go_ret
   exact⟨ret_int (by rw[runL_all digit _ (fun j hj=>hall.out j (by simp at hj;omega) hj)];simp),rfl⟩
theorem run_isLetter (s:ByteArray)(w:World)(hs:s.size≤maxLen):
  Calls prog 62 #[.string s,.func (.func 131) #[] #[]] w fun e w'=>e=.returned (.int .i64 (runL letter s.data.toList))∧w'=w:=by
 unfold maxLen at hs
 go_enter func62,ntmps62
 go_wp2
 go_loop [8] (fun i=>∃k:Nat,k≤s.size∧i=.int .i64 k∧Hid (∀j (hj:j<k) (hk:j<s.data.toList.length),letter s.data.toList[j]=true)) (fun i=>s.size-(intOf i).toNat)
 case atStart=>exact⟨0,Nat.zero_le _,rfl,fun j hj _=>absurd hj (by omega)⟩
 case round =>
  obtain⟨k,hk,rfl,hall⟩:=hrel
  by_cases hlt:k<s.size
  ·cases hp:letter s[k]
   ·go_wp2_with (go_at_call 131;refine (isLetter_any s[k] _).mono ?_;rintro e w' ⟨rfl,rfl⟩)
    go_ret
    exact⟨ret_int (by rw[runL_at letter s.data.toList k (by simpa using hlt) (fun j hj=>hall.out j hj (by simp;omega)) hp]),rfl⟩
   ·go_wp2_with (go_at_call 131;refine (isLetter_any s[k] _).mono ?_;rintro e w' ⟨rfl,rfl⟩)
    go_round
    case rel =>
     refine⟨k+1,by omega,by go_num,fun j hj hk=>?_⟩
     by_cases e:j=k
     ·subst e;exact hp
     ·exact hall.out j (by omega) hk
    case measure=>simp[intOf];omega
  ·go_wp2
   go_ret
   exact⟨ret_int (by rw[runL_all letter _ (fun j hj=>hall.out j (by simp at hj;omega) hj)];simp),rfl⟩
theorem run_isQuotable (s:ByteArray)(w:World)(hs:s.size≤maxLen):
  Calls prog 62 #[.string s,.func (.func 42) #[] #[]] w fun e w'=>e=.returned (.int .i64 (runL quot s.data.toList))∧w'=w:=by
 unfold maxLen at hs
 go_enter func62,ntmps62
 go_wp2
 go_loop [8] (fun i=>∃k:Nat,k≤s.size∧i=.int .i64 k∧Hid (∀j (hj:j<k) (hk:j<s.data.toList.length),quot s.data.toList[j]=true)) (fun i=>s.size-(intOf i).toNat)
 case atStart=>exact⟨0,Nat.zero_le _,rfl,fun j hj _=>absurd hj (by omega)⟩
 case round =>
  obtain⟨k,hk,rfl,hall⟩:=hrel
  by_cases hlt:k<s.size
  ·cases hp:quot s[k]
   ·go_wp2_with (go_at_call 42;refine (isQuotable_any s[k] _).mono ?_;rintro e w' ⟨rfl,rfl⟩)
    go_ret
    exact⟨ret_int (by rw[runL_at quot s.data.toList k (by simpa using hlt) (fun j hj=>hall.out j hj (by simp;omega)) hp]),rfl⟩
   ·go_wp2_with (go_at_call 42;refine (isQuotable_any s[k] _).mono ?_;rintro e w' ⟨rfl,rfl⟩)
    go_round
    case rel =>
     refine⟨k+1,by omega,by go_num,fun j hj hk=>?_⟩
     by_cases e:j=k
     ·subst e;exact hp
     ·exact hall.out j (by omega) hk
    case measure=>simp[intOf];omega
  ·go_wp2
   go_ret
   exact⟨ret_int (by rw[runL_all quot _ (fun j hj=>hall.out j (by simp at hj;omega) hj)];simp),rfl⟩
theorem ext01 (s:ByteArray)(c:UInt8):((s.extract 0 1).toList==[c])=startsB c s.data.toList:=by
 rw[ByteArray.toList_eq,Lib.extract_data]
 cases h:s.data.toList with
 | nil=>simp[startsB]
 | cons a l=>simp[startsB]
theorem len_data (s:ByteArray):s.data.toList.length=s.size:=Array.length_toList
theorem starts_small (s:ByteArray)(c:UInt8)(h:¬ 1≤s.size):startsB c s.data.toList=false:=by
 have:s.data.toList=[]:=List.eq_nil_of_length_eq_zero (by rw[len_data];omega)
 simp[startsB,this]
theorem hasPrefix_quote (s:ByteArray)(w:World)(hs:s.size≤maxLen):
  Calls prog 142 #[.string s,.string ⟨#[39]⟩] w fun e w'=>e=.returned (.bool (startsB 39 s.data.toList))∧w'=w:=by
 unfold maxLen at hs
 by_cases h:1≤s.size
 ·have h2:(1:Int)≤s.size:=by omega
  go_enter func142,ntmps142
  go_wp2
  go_ret
  exact⟨ret_bool (ext01 s 39),rfl⟩
 ·have h2:(s.size:Int)<1:=by omega
  have h3:=starts_small s 39 h
  go_enter func142,ntmps142
  go_wp2
  all_goals (go_ret;exact⟨rfl,rfl⟩)
theorem trimPrefix_minus (s:ByteArray)(w:World)(hs:s.size≤maxLen):
  Calls prog 170 #[.string s,.string ⟨#[45]⟩] w fun e w'=>∃r:ByteArray,e=.returned (.string r)∧r.size=(unsignL s.data.toList).length∧r.data.toList=unsignL s.data.toList∧w'=w:=by
 unfold maxLen at hs
 by_cases h:1≤s.size
 ·have h2:(1:Int)≤s.size:=by omega
  have e:=ext01 s 45
  cases hb:startsB 45 s.data.toList
  ·rw[hb] at e
   go_enter func170,ntmps170
   go_wp2
   go_ret
   exact⟨s,rfl,by simp[unsignL,hb],by simp[unsignL,hb],rfl⟩
  ·rw[hb] at e
   go_enter func170,ntmps170
   go_wp2
   go_ret
   exact⟨s.extract 1 s.size,rfl,by simp[unsignL,hb],by rw[Lib.extract_to_end];simp[unsignL,hb],rfl⟩
 ·have h2:(s.size:Int)<1:=by omega
  have h3:=starts_small s 45 h
  go_enter func170,ntmps170
  go_wp2
  all_goals (go_ret;exact⟨s,rfl,by simp[unsignL,h3],by simp[unsignL,h3],rfl⟩)
def lenV (o:Option Nat):Value:=.int .i64 ((o.getD 0:Nat):Int)
def errV (o:Option Nat)(ev:Value):Value:=match o with | some _=>.nilIface | none=>ev
theorem measureWord_any (s:ByteArray)(w:World)(ev:Value)(hs:s.size≤maxLen)(hc:w.cell? ⟨6,0,none⟩=some ev):
  Calls prog 132 #[.string s] w fun e w'=>e=.returned (.tuple #[lenV (wordL s.data.toList),errV (wordL s.data.toList) ev])∧∃n,w'=w.drewN n:=by
 have hl:=runL_le letter s.data.toList
 have hl2:=len_data s
 have hs':=hs
 unfold maxLen at hs'
 by_cases h:8<runL letter s.data.toList
 ·have e1:wordL s.data.toList=none:=by simp[wordL,h]
  rw[e1]
  have h2:(8:Int)<(runL letter s.data.toList:Int):=by omega
  go_enter func132,ntmps132
  go_wp2_with (go_at_call 62;refine (run_isLetter s _ hs).mono ?_;rintro e w' ⟨rfl,rfl⟩)
  go_quiet (fail)
  go_wp2
  go_ret2
  exact⟨rfl,_,rfl⟩
 ·have e1:wordL s.data.toList=some (runL letter s.data.toList):=by simp[wordL,h]
  rw[e1]
  have h2:(runL letter s.data.toList:Int)≤8:=by omega
  go_enter func132,ntmps132
  go_wp2_with (go_at_call 62;refine (run_isLetter s _ hs).mono ?_;rintro e w' ⟨rfl,rfl⟩)
  go_ret2
  exact⟨rfl,0,rfl⟩
theorem measureNumber_any (s:ByteArray)(w:World)(ev:Value)(hs:s.size≤maxLen)(hc:w.cell? ⟨6,0,none⟩=some ev):
  Calls prog 130 #[.string s] w fun e w'=>e=.returned (.tuple #[lenV (numL s.data.toList),errV (numL s.data.toList) ev])∧∃n,w'=w.drewN n:=by
 have hl:=runL_le digit (unsignL s.data.toList)
 have hl2:=len_data s
 have hl3:=unsign_len s.data.toList
 have hs':=hs
 unfold maxLen at hs'
 by_cases h0:runL digit (unsignL s.data.toList)=0
 ·have e1:numL s.data.toList=none:=by simp[numL,h0]
  rw[e1]
  have h00:((runL digit (unsignL s.data.toList):Nat):Int)=0:=by omega
  clear h0
  go_enter func130,ntmps130
  go_wp2_with (first
   |(go_at_call 170;refine (trimPrefix_minus s _ hs).mono ?_;rintro e w' ⟨r,rfl,hr1,hr2,rfl⟩)
   |(go_at_call 62;refine (run_isDigit r _ (by omega)).mono ?_;rw[hr2];rintro e w' ⟨rfl,rfl⟩))
  go_quiet (fail)
  go_wp2
  go_ret2
  exact⟨rfl,_,rfl⟩
 by_cases h:9<runL digit (unsignL s.data.toList)
 ·have e1:numL s.data.toList=none:=by simp[numL,h]
  rw[e1]
  have h2:(9:Int)<(runL digit (unsignL s.data.toList):Int):=by omega
  have h3:((runL digit (unsignL s.data.toList):Int)==0)=false:=by simpa using h0
  clear h0
  go_enter func130,ntmps130
  go_wp2_with (first
   |(go_at_call 170;refine (trimPrefix_minus s _ hs).mono ?_;rintro e w' ⟨r,rfl,hr1,hr2,rfl⟩)
   |(go_at_call 62;refine (run_isDigit r _ (by omega)).mono ?_;rw[hr2];rintro e w' ⟨rfl,rfl⟩))
  go_quiet (fail)
  go_wp2
  go_ret2
  exact⟨rfl,_,rfl⟩
 ·have e1:numL s.data.toList=some (s.data.toList.length-(unsignL s.data.toList).length+runL digit (unsignL s.data.toList)):=by simp only[numL,h0,h,or_self,if_false]
  rw[e1]
  have h2:(runL digit (unsignL s.data.toList):Int)≤9:=by omega
  have h3:((runL digit (unsignL s.data.toList):Int)==0)=false:=by simpa using h0
  clear h0 h
  go_enter func130,ntmps130
  go_wp2_with (first
   |(go_at_call 170;refine (trimPrefix_minus s _ hs).mono ?_;rintro e w' ⟨r,rfl,hr1,hr2,rfl⟩)
   |(go_at_call 62;refine (run_isDigit r _ (by omega)).mono ?_;rw[hr2];rintro e w' ⟨rfl,rfl⟩))
  go_ret2
  refine⟨?_,0,rfl⟩
  simp only[lenV,errV,Option.getD_some]
  rw[show ((s.data.toList.length-(unsignL s.data.toList).length+runL digit (unsignL s.data.toList):Nat):Int)=(s.size:Int)-(unsignL s.data.toList).length+runL digit (unsignL s.data.toList) by omega]
  rfl
theorem measureText_any (s:ByteArray)(w:World)(ev:Value)(hs:s.size≤maxLen)(h1:1≤s.size)(hc:w.cell? ⟨6,0,none⟩=some ev):
  Calls prog 128 #[.string s] w fun e w'=>e=.returned (.tuple #[lenV (textL s.data.toList),errV (textL s.data.toList) ev])∧∃n,w'=w.drewN n:=by
 have hl:=runL_le quot (s.data.toList.drop 1)
 have hl2:=len_data s
 have hs':=hs
 unfold maxLen at hs'
 have er:(s.extract 1 s.size).data.toList=s.data.toList.drop 1:=Lib.extract_to_end s 1
 have ez:(s.extract 1 s.size).size≤maxLen:=by simp;omega
 rw[List.length_drop] at hl
 have cr:=fun w=>run_isQuotable (s.extract 1 s.size) w ez
 rw[er] at cr
 generalize hm:runL quot (s.data.toList.drop 1)=m at *
 have cp:=fun w=>hasPrefix_quote (s.extract (1+m) s.size) w (by simp[maxLen];omega)
 have ep:(s.extract (1+m) s.size).data.toList=(s.data.toList.drop 1).drop m:=by rw[Lib.extract_to_end,List.drop_drop]
 rw[ep] at cp
 by_cases h:20<m
 ·have e1:textL s.data.toList=none:=by simp only[textL,hm,h,true_or,if_true]
  rw[e1]
  clear cp ep hm er
  go_enter func128,ntmps128
  go_wp2_with (go_at_call 62;refine (cr _).mono ?_;rintro e w' ⟨rfl,rfl⟩)
  go_quiet (fail)
  go_wp2
  go_ret2
  exact⟨rfl,_,rfl⟩
 ·cases hq:startsB 39 ((s.data.toList.drop 1).drop m)
  ·have e1:textL s.data.toList=none:=by simp only[textL,hm,hq,or_true,if_true]
   rw[e1]
   rw[hq] at cp
   clear hq ep hm er
   go_enter func128,ntmps128
   go_wp2_with (first | (go_at_call 62;refine (cr _).mono ?_;rintro e w' ⟨rfl,rfl⟩) | (go_at_call 142;refine (cp _).mono ?_;rintro e w' ⟨rfl,rfl⟩))
   go_quiet (fail)
   go_wp2
   go_ret2
   exact⟨rfl,_,rfl⟩
  ·have e1:textL s.data.toList=some (m+2):=by simp only[textL,hm,hq,h,Bool.true_eq_false,or_self,if_false]
   rw[e1]
   rw[hq] at cp
   clear hq ep hm er
   go_enter func128,ntmps128
   go_wp2_with (first | (go_at_call 62;refine (cr _).mono ?_;rintro e w' ⟨rfl,rfl⟩) | (go_at_call 142;refine (cp _).mono ?_;rintro e w' ⟨rfl,rfl⟩))
   go_ret2
   exact⟨rfl,0,rfl⟩
def kcode:K→Int
 | .eof=>0 | .opn=>1 | .cls=>2 | .num=>3 | .txt=>4 | .word=>5 | .bad=>6
def measured (m:K×Nat)(ev:Value)(e:Ending):Prop :=
 match m.1 with
 | .bad=>∃a b:Int,e=.returned (.tuple #[.int .i64 a,.int .i64 b,ev])
 | k=>e=.returned (.tuple #[.int .i64 (kcode k),.int .i64 ((m.2:Nat):Int),.nilIface])
theorem measured_kind (k:K)(hk:k≠.bad)(o:Option Nat)(ev:Value):measured (kindOf k o) ev (.returned (.tuple #[.int .i64 (kcode k),lenV o,errV o ev])):=by
 cases o with
 | none=>exact⟨_,_,rfl⟩
 | some n=>cases k<;>first | rfl | exact absurd rfl hk
theorem measure_any (s:ByteArray)(w:World)(ev:Value)(hs:s.size≤maxLen)(hc:w.cell? ⟨6,0,none⟩=some ev):
  Calls prog 95 #[.string s] w fun e w'=>measured (measureL s.data.toList) ev e∧∃n,w'=w.drewN n:=by
 have hl2:=len_data s
 have hs':=hs
 unfold maxLen at hs'
 by_cases h0:s.size=0
 ·have e0:s.data.toList=[]:=List.eq_nil_of_length_eq_zero (by omega)
  have e1:s.toList.isEmpty=true:=by rw[ByteArray.toList_eq,e0];rfl
  rw[e0]
  clear e0
  go_enter func95,ntmps95
  go_wp2
  go_ret3
  exact⟨rfl,0,rfl⟩
 have h1:1≤s.size:=by omega
 obtain⟨c,r,hcr⟩:∃c r,s.data.toList=c::r:=by
  cases h:s.data.toList with
  | nil=>rw[h] at hl2;simp at hl2;omega
  | cons c r=>exact⟨c,r,rfl⟩
 have hs0:s[0]=c:=by
  have:=data_at s 0 (by omega)
  simpa[hcr] using this.symm
 have e1:s.toList.isEmpty=false:=by rw[ByteArray.toList_eq,hcr];rfl
 have cw:=fun w hc=>measureWord_any s w ev hs hc
 have cn:=fun w hc=>measureNumber_any s w ev hs hc
 have ct:=fun w hc=>measureText_any s w ev hs h1 hc
 rw[hcr] at cw cn ct ⊢
 clear hcr hl2 h0
 have hi:(0:Int)<s.size:=by omega
 have bn:∀k:UInt8,¬ c=k→((c.toNat:Int)==(k.toNat:Int))=false:=fun k hk=>by
  have:c.toNat≠k.toNat:=fun e=>hk (UInt8.toNat_inj.1 e)
  simp;omega
 by_cases a1:c=40
 ·subst a1
  go_enter func95,ntmps95
  go_wp2
  go_ret3
  exact⟨rfl,0,rfl⟩
 by_cases a2:c=41
 ·subst a2
  go_enter func95,ntmps95
  go_wp2
  go_ret3
  exact⟨rfl,0,rfl⟩
 by_cases a3:c=39
 ·subst a3
  go_enter func95,ntmps95
  go_wp2_with (go_at_call 128;refine (ct _ hc).mono ?_;rintro e w' ⟨rfl,n,rfl⟩)
  go_ret3
  exact⟨measured_kind .txt (by decide) _ ev,n,rfl⟩
 have b1:((c.toNat:Int)==40)=false:=bn 40 a1
 have b2:((c.toNat:Int)==41)=false:=bn 41 a2
 have b3:((c.toNat:Int)==39)=false:=bn 39 a3
 have f1:(c==40)=false:=by simpa using a1
 have f2:(c==41)=false:=by simpa using a2
 have f3:(c==39)=false:=by simpa using a3
 clear a1 a2 a3
 by_cases a4:c=45
 ·subst a4
  clear b1 b2 b3 f1 f2 f3 bn
  go_enter func95,ntmps95
  go_wp2_with (go_at_call 130;refine (cn _ hc).mono ?_;rintro e w' ⟨rfl,n,rfl⟩)
  go_ret3
  exact⟨measured_kind .num (by decide) _ ev,n,rfl⟩
 have b4:((c.toNat:Int)==45)=false:=bn 45 a4
 have f4:(c==45)=false:=by simpa using a4
 clear a4 bn
 cases a5:digit c
 ·cases a6:letter c
  ·have em:Hid (measureL (c::r)=(.bad,0)):=show measureL (c::r)=(.bad,0) by simp[measureL,f1,f2,f3,f4,a5,a6]
   clear f1 f2 f3 f4
   go_enter func95,ntmps95
   go_wp2_with (first | (go_at_call 129;refine (isDigit_any c _).mono ?_;rintro e w' ⟨rfl,rfl⟩) | (go_at_call 131;refine (isLetter_any c _).mono ?_;rintro e w' ⟨rfl,rfl⟩))
   go_quiet (fail)
   go_wp2
   go_ret3
   exact⟨by rw[em.out];exact⟨_,_,rfl⟩,_,rfl⟩
  ·have em:Hid (measureL (c::r)=kindOf .word (wordL (c::r))):=show measureL (c::r)=_ by simp[measureL,f1,f2,f3,f4,a5,a6]
   clear f1 f2 f3 f4
   go_enter func95,ntmps95
   go_wp2_with (first | (go_at_call 129;refine (isDigit_any c _).mono ?_;rintro e w' ⟨rfl,rfl⟩) | (go_at_call 131;refine (isLetter_any c _).mono ?_;rintro e w' ⟨rfl,rfl⟩) | (go_at_call 132;refine (cw _ hc).mono ?_;rintro e w' ⟨rfl,n,rfl⟩))
   go_ret3
   exact⟨by rw[em.out];exact measured_kind .word (by decide) _ ev,n,rfl⟩
 ·have em:Hid (measureL (c::r)=kindOf .num (numL (c::r))):=show measureL (c::r)=_ by simp[measureL,f1,f2,f3,f4,a5]
  clear f1 f2 f3 f4
  go_enter func95,ntmps95
  go_wp2_with (first | (go_at_call 129;refine (isDigit_any c _).mono ?_;rintro e w' ⟨rfl,rfl⟩) | (go_at_call 130;refine (cn _ hc).mono ?_;rintro e w' ⟨rfl,n,rfl⟩))
  go_ret3
  exact⟨by rw[em.out];exact measured_kind .num (by decide) _ ev,n,rfl⟩
def bodyL (k:K)(l:List UInt8):List UInt8:=match k with
 | .txt=>(l.drop 1).take (l.length-2)
 | _=>l
theorem body_txt (s:ByteArray)(w:World)(hs:s.size≤maxLen)(h2:2≤s.size):
  Calls prog 96 #[.int .i64 4,.string s] w fun e w'=>(∃b:ByteArray,e=.returned (.string b)∧b.data.toList=bodyL .txt s.data.toList∧b.size≤s.size)∧w'=w:=by
 unfold maxLen at hs
 have e1:((s.size:Int)-1)=((s.size-1:Nat):Int):=by omega
 go_enter func96,ntmps96
 go_wp2
 go_ret
 refine⟨⟨s.extract 1 (s.size-1),rfl,?_,?_⟩,rfl⟩
 ·rw[Lib.extract_data,bodyL,len_data]
  rfl
 ·simp
  omega
theorem body_other (k:K)(hk:k≠.txt)(s:ByteArray)(w:World):
  Calls prog 96 #[.int .i64 (kcode k),.string s] w fun e w'=>(∃b:ByteArray,e=.returned (.string b)∧b.data.toList=bodyL k s.data.toList∧b.size≤s.size)∧w'=w:=by
 cases k
 all_goals first | exact absurd rfl hk | skip
 all_goals
  go_enter func96,ntmps96
  go_wp2
  go_ret
  exact⟨⟨s,rfl,rfl,Nat.le_refl _⟩,rfl⟩
structure Touch (S:Nat→Prop)(w w':World):Prop where
 os:w'.os=w.os
 tape:w'.tape=w.tape
 output:w'.output=w.output
 size:w.heap.size≤w'.heap.size
 block:∀k,k<w.heap.size→¬ S k→w'.heap[k]?=w.heap[k]?
theorem Touch.refl (S:Nat→Prop)(w:World):Touch S w w:=⟨rfl,rfl,rfl,Nat.le_refl _,fun _ _ _=>rfl⟩
theorem Touch.trans {S:Nat→Prop}{a b c:World}(h:Touch S a b)(k:Touch S b c):Touch S a c :=
 ⟨k.os.trans h.os,k.tape.trans h.tape,k.output.trans h.output,Nat.le_trans h.size k.size,fun i hi hS=>(k.block i (Nat.lt_of_lt_of_le hi h.size) hS).trans (h.block i hi hS)⟩
theorem Touch.mono {S T:Nat→Prop}{w w':World}(h:Touch S w w')(hST:∀k,S k→T k):Touch T w w' :=
 ⟨h.os,h.tape,h.output,h.size,fun k hk hT=>h.block k hk fun hS=>hT (hST k hS)⟩
theorem Touch.of_below {S:Nat→Prop}{w w':World}(h:Below w.heap.size w w'):Touch S w w':=⟨h.os,h.tape,h.output,h.size,fun k hk _=>h.block k hk⟩
theorem Touch.below {w w':World}(h:Touch (fun _=>False) w w'):Below w.heap.size w w':=⟨h.os,h.tape,h.output,h.size,fun k hk=>h.block k hk id⟩
theorem Touch.fresh {S:Nat→Prop}{w0 w w':World}(hb:Below w0.heap.size w0 w)(h:Touch S w w')(hS:∀k,k<w0.heap.size→¬ S k):Below w0.heap.size w0 w' :=
 ⟨h.os.trans hb.os,h.tape.trans hb.tape,h.output.trans hb.output,Nat.le_trans hb.size h.size,fun k hk=>(h.block k (Nat.lt_of_lt_of_le hk hb.size) (hS k hk)).trans (hb.block k hk)⟩
theorem Touch.drew {S:Nat→Prop}{a w:World}(h:Touch S a w):Touch S a w.drew:=⟨h.os,h.tape,h.output,h.size,h.block⟩
theorem Touch.drewN {S:Nat→Prop}{a w:World}(h:Touch S a w)(n:Nat):Touch S a (w.drewN n):=h.trans (Touch.of_below ⟨rfl,rfl,rfl,Nat.le_refl _,fun _ _=>rfl⟩)
theorem Touch.alloc {S:Nat→Prop}{a w:World}(h:Touch S a w)(o:Obj):Touch S a (w.alloc o):=h.trans (Touch.of_below ((Below.refl _ _).alloc (Nat.le_refl _) o))
theorem Touch.setCell {S:Nat→Prop}{a w:World}(h:Touch S a w){p:Addr}(hp:S p.block∨a.heap.size≤p.block)(u:Value):Touch S a (w.setCell p u) :=
 ⟨h.os,h.tape,h.output,by simpa[World.setCell] using h.size,fun k hk hS=>by
  rw[Below.heap_setCell w p u k (by rintro rfl;rcases hp with g | g;exact hS g;omega)]
  exact h.block k hk hS⟩
theorem Touch.cell {S:Nat→Prop}{w w':World}(h:Touch S w w'){p:Addr}{v:Value}(hc:w.cell? p=some v)(hS:¬ S p.block):w'.cell? p=some v:=by
 have hlt:p.block<w.heap.size:=by
  rcases Nat.lt_or_ge p.block w.heap.size with g | g
  ·exact g
  ·simp[World.cell?,Array.getElem?_eq_none g] at hc
 rw[World.cell?_of_block (w:=w) (h.block p.block hlt hS)]
 exact hc
theorem Touch.frozen {S:Nat→Prop}{w w':World}(h:Touch S w w'){p:Addr}(hlt:p.block<w.heap.size)(hS:¬ S p.block):w'.frozen? p=w.frozen? p :=
 World.frozen?_of_block (w:=w) (h.block p.block hlt hS)
theorem cell_lt {w:World}{p:Addr}{v:Value}(hc:w.cell? p=some v):p.block<w.heap.size:=by
 rcases Nat.lt_or_ge p.block w.heap.size with g | g
 ·exact g
 ·simp[World.cell?,Array.getElem?_eq_none g] at hc
theorem alloc_cell {w:World}{p:Addr}{v:Value}{o:Obj}(hc:w.cell? p=some v):(w.alloc o).cell? p=some v:=by
 rw[World.cell?_alloc_lt _ _ _ (cell_lt hc)]
 exact hc
theorem Below.cellv {w w':World}(hb:Below w.heap.size w w'){p:Addr}{v:Value}(hc:w.cell? p=some v):w'.cell? p=some v:=by
 rw[hb.cell (cell_lt hc)]
 exact hc
theorem bcell {W w1:World}(hb:Below W.heap.size W w1):(∀b o,b<W.heap.size→w1.cell? ⟨b,o,none⟩=W.cell? ⟨b,o,none⟩)∧(∀b o,b<W.heap.size→w1.frozen? ⟨b,o,none⟩=W.frozen? ⟨b,o,none⟩)∧W.heap.size≤w1.heap.size :=
 ⟨fun b o h=>hb.cell (p:=⟨b,o,none⟩) h,fun b o h=>hb.frozen (p:=⟨b,o,none⟩) h,hb.size⟩
end Go.Proofs.YtifhgjpglicjbaaGreatDoor
