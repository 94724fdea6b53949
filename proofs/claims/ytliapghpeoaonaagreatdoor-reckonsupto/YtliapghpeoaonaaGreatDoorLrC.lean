/-
  The law's begun, as far as the kinds up to Reckon's go.
-/
import Derived.Test.YtliapghpeoaonaaGreatDoorLawF
import Derived.Test.YtliapghpeoaonaaGreatDoorRows
import Derived.ProofKit
import Derived.SliceStrings
import Derived.OpenShut
set_option maxHeartbeats 4000000
set_option maxRecDepth 20000
namespace Go.Proofs.YtliapghpeoaonaaGreatDoor
open Go.Proofs.Tryz
open Go.RowKit Go.Lib
attribute [local go_sem ↓] Go.wp_at_zero Go.wp_at_succ
def counterB:ByteArray:=⟨#[40,102,117,110,32,111,100,100,32,40,98,41,32,40,105,102,32,98,32,39,116,104,114,101,101,39,32,39,111,116,104,101,114,39,41,41,32,40,102,117,110,32,105,110,105,116,32,40,41,32,48,41,32,40,102,117,110,32,117,112,100,97,116,101,32,40,109,32,110,41,32,40,97,100,100,32,110,32,109,41,41,32,40,102,117,110,32,118,105,101,119,32,40,110,41,32,40,108,105,115,116,32,39,101,108,39,32,39,112,39,32,40,108,105,115,116,32,40,108,105,115,116,32,39,111,110,39,32,39,117,112,39,32,49,41,32,40,108,105,115,116,32,39,105,100,39,32,39,120,39,41,41,32,40,108,105,115,116,32,110,32,40,108,105,115,116,32,39,108,97,122,121,39,32,39,111,100,100,39,32,40,101,113,32,110,32,51,41,41,41,41,41]⟩
structure Zhu (w:World)(g b:Nat)(s t:ByteArray):Prop where
 kinds:∀i,2≤i→i<12→∃k:Int,3≤k∧w.cell? ⟨g,i*7,none⟩=some (.int .i64 k)
 z:w.cell? ⟨g,0,none⟩=some (.int .i64 1)∧w.cell? ⟨g,1,none⟩=some (.int .i64 0)∧w.cell? ⟨g,2,none⟩=some (.int .i64 0)∧w.cell? ⟨g,3,none⟩=some (.string s)∧w.cell? ⟨g,4,none⟩=some (.string ⟨#[]⟩)∧w.cell? ⟨g,5,none⟩=some (.slice none 0 0)∧w.cell? ⟨g,6,none⟩=some (.slice none 0 0)
 o:w.cell? ⟨g,7,none⟩=some (.int .i64 2)∧w.cell? ⟨g,8,none⟩=some (.int .i64 0)∧w.cell? ⟨g,9,none⟩=some (.int .i64 0)∧w.cell? ⟨g,10,none⟩=some (.string s)∧w.cell? ⟨g,11,none⟩=some (.string t)∧w.cell? ⟨g,12,none⟩=some (.slice (some ⟨b,0,none⟩) 2 2)∧w.cell? ⟨g,13,none⟩=some (.slice none 0 0)
 args:w.cell? ⟨b,0,none⟩=some (.string ⟨#[50]⟩)∧w.cell? ⟨b,1,none⟩=some (.string ⟨#[51]⟩)
 sz:s.size≤maxLen
theorem Zhu.below {w w':World}{g b:Nat}{s t:ByteArray}(h:Zhu w g b s t)(hb:Below w.heap.size w w'):Zhu w' g b s t:=by
 obtain⟨h1,⟨a0,a1,a2,a3,a4,a5,a6⟩,⟨b0,b1,b2,b3,b4,b5,b6⟩,⟨c0,c1⟩,h5⟩:=h
 refine⟨fun i hi hj=>?_,⟨Below.cellv hb a0,Below.cellv hb a1,Below.cellv hb a2,Below.cellv hb a3,Below.cellv hb a4,Below.cellv hb a5,Below.cellv hb a6⟩,⟨Below.cellv hb b0,Below.cellv hb b1,Below.cellv hb b2,Below.cellv hb b3,Below.cellv hb b4,Below.cellv hb b5,Below.cellv hb b6⟩,⟨Below.cellv hb c0,Below.cellv hb c1⟩,h5⟩
 obtain⟨k,hk,hc⟩:=h1 i hi hj
 exact⟨k,hk,Below.cellv hb hc⟩
theorem Zbn (A:World)(cs:Array Value)(t:TypeId)(g j:Nat)(v:Value)(hg:g=A.heap.size)(h:cs[j]?=some v):(A.alloc (.cells cs t)).cell? ⟨g,j,none⟩=some v:=by
 subst hg
 unfold World.cell?
 rw[heap_alloc_new]
 exact h
theorem Zhu.args_at {w:World}{g b:Nat}{s t:ByteArray}(h:Zhu w g b s t):Zeb w (.slice (some ⟨b,0,none⟩) 2 2) [⟨#[50]⟩,⟨#[51]⟩]:=by
 refine⟨_,_,rfl,Nat.le_refl _,by decide,fun x hx=>?_,fun i hi=>⟨b,0,rfl,?_⟩⟩
 ·simp at hx
  rcases hx with rfl | rfl<;>decide
 ·match i,hi with
  | 0,_=>exact h.args.1
  | 1,_=>exact h.args.2
theorem Z1l (w:World):Zeb w (.slice none 0 0) []:=⟨none,0,rfl,Nat.le_refl _,by decide,by simp,fun i hi=>by simp at hi⟩
theorem Z3o (wb:Nat)(w:World)(E:Nat→Addr)(S:Zed w E)(hN:Zl4 w)(h15:15≤w.heap.size)(hW:Zr9 w wb):
  Calls prog 5 #[.pointer (some ⟨wb,0,none⟩),.int .i64 2] w fun e w'=>e=.returned (.bool true)∧Below w.heap.size w w':=by
 have C0:Hid (∀(X:World) (s t:ByteArray),Below w.heap.size w X→Zhu X (w.heap.size+1+1) w.heap.size s t→Calls prog 6 #[.pointer (some ⟨wb,0,none⟩),stepV 1 0 0 s ⟨#[]⟩ (.slice none 0 0) (.slice none 0 0)] X fun e w'=>e=.returned (.bool true)∧Below X.heap.size X w'):=fun X s t hX h=>Zqn 1 0 0 (by decide) s ⟨#[]⟩ none none 0 0 0 0 [] wb X E (S.below hX) (hN.below hX) (Nat.le_trans h15 hX.size) (hW.below hX) h.sz (Z1l X) (by simp) (by simp)
 have C1:Hid (∀(X:World) (s t:ByteArray),Below w.heap.size w X→Zhu X (w.heap.size+1+1) w.heap.size s t→Calls prog 6 #[.pointer (some ⟨wb,0,none⟩),stepV 2 0 0 s t (.slice (some ⟨w.heap.size,0,none⟩) 2 2) (.slice none 0 0)] X fun e w'=>e=.returned (.bool true)∧Below X.heap.size X w'):=fun X s t hX h=>Zqn 2 0 0 (by decide) s t (some ⟨w.heap.size,0,none⟩) none 2 2 0 0 [⟨#[50]⟩,⟨#[51]⟩] wb X E (S.below hX) (hN.below hX) (Nat.le_trans h15 hX.size) (hW.below hX) h.sz h.args_at (by simp) (fun b hb=>by simp at hb;rcases hb with rfl | rfl<;>decide)
 clear S hN hW h15
 go_enter func5,ntmps5
 go_wp2_with fail
 go_loopg [6] 12 (fun gh iv wr=>∃(j:Nat) (s t:ByteArray),gh=12-j∧iv=.int .i64 ((j:Nat):Int)∧j≤12∧Below w.heap.size w wr∧Hid (Zhu wr (w.heap.size+1+1) w.heap.size s t))
 case atStart =>
  refine⟨0,counterB,⟨#[117,112,100,97,116,101]⟩,by omega,rfl,by omega,(Zr4 w _ _).alloc (by simp;omega) _,?_⟩
  refine Zhu.mk (fun i hi hj=>?_) ?_ ?_ ?_ ?_
  ·match i,hi,hj with
   | 2,_,_=>exact⟨_,by decide,Zbn _ _ _ _ (2*7) _ (by simp) rfl⟩
   | 3,_,_=>exact⟨_,by decide,Zbn _ _ _ _ (3*7) _ (by simp) rfl⟩
   | 4,_,_=>exact⟨_,by decide,Zbn _ _ _ _ (4*7) _ (by simp) rfl⟩
   | 5,_,_=>exact⟨_,by decide,Zbn _ _ _ _ (5*7) _ (by simp) rfl⟩
   | 6,_,_=>exact⟨_,by decide,Zbn _ _ _ _ (6*7) _ (by simp) rfl⟩
   | 7,_,_=>exact⟨_,by decide,Zbn _ _ _ _ (7*7) _ (by simp) rfl⟩
   | 8,_,_=>exact⟨_,by decide,Zbn _ _ _ _ (8*7) _ (by simp) rfl⟩
   | 9,_,_=>exact⟨_,by decide,Zbn _ _ _ _ (9*7) _ (by simp) rfl⟩
   | 10,_,_=>exact⟨_,by decide,Zbn _ _ _ _ (10*7) _ (by simp) rfl⟩
   | 11,_,_=>exact⟨_,by decide,Zbn _ _ _ _ (11*7) _ (by simp) rfl⟩
  ·exact⟨Zbn _ _ _ _ _ _ (by simp) rfl,Zbn _ _ _ _ _ _ (by simp) rfl,Zbn _ _ _ _ _ _ (by simp) rfl,Zbn _ _ _ _ _ _ (by simp) rfl,Zbn _ _ _ _ _ _ (by simp) rfl,Zbn _ _ _ _ _ _ (by simp) rfl,Zbn _ _ _ _ _ _ (by simp) rfl⟩
  ·exact⟨Zbn _ _ _ _ _ _ (by simp) rfl,Zbn _ _ _ _ _ _ (by simp) rfl,Zbn _ _ _ _ _ _ (by simp) rfl,Zbn _ _ _ _ _ _ (by simp) rfl,Zbn _ _ _ _ _ _ (by simp) rfl,Zbn _ _ _ _ _ _ (by simp) rfl,Zbn _ _ _ _ _ _ (by simp) rfl⟩
  ·exact⟨Zac (Zac (Zbn w _ _ _ _ _ rfl rfl)),Zac (Zac (Zbn w _ _ _ _ _ rfl rfl))⟩
  ·exact of_decide_eq_true (by kernel_rfl)
 case round =>
  obtain⟨j,s,t,rfl,rfl,hj,hbr,hrw⟩:=hrel
  by_cases hj0:j=0
  ·subst hj0
   obtain⟨z0,z1,z2,z3,z4,z5,z6⟩:=hrw.out.z
   have CT:=C0.out wr s t hbr hrw.out
   have NX:Hid (∀X,Below wr.heap.size wr X→Below w.heap.size w X∧Hid (Zhu X (w.heap.size+1+1) w.heap.size s t)):=fun X hX=>⟨hbr.trans (hX.mono hbr.size),hrw.out.below hX⟩
   clear C0 C1 hrw
   go_wp2_with (go_at_call 6;refine CT.mono ?_;rintro e w1 ⟨rfl,hb1⟩)
   go_roundg (12-1)
   case measure=>omega
   case rel=>exact⟨1,s,t,rfl,by go_num,by omega,(NX.out _ hb1).1,(NX.out _ hb1).2⟩
  by_cases hj1:j=1
  ·subst hj1
   obtain⟨z0,z1,z2,z3,z4,z5,z6⟩:=hrw.out.o
   have CT:=C1.out wr s t hbr hrw.out
   have NX:Hid (∀X,Below wr.heap.size wr X→Below w.heap.size w X∧Hid (Zhu X (w.heap.size+1+1) w.heap.size s t)):=fun X hX=>⟨hbr.trans (hX.mono hbr.size),hrw.out.below hX⟩
   clear C0 C1 hrw
   go_wp2_with (go_at_call 6;refine CT.mono ?_;rintro e w1 ⟨rfl,hb1⟩)
   go_roundg (12-2)
   case measure=>omega
   case rel=>exact⟨2,s,t,rfl,by go_num,by omega,(NX.out _ hb1).1,(NX.out _ hb1).2⟩
  by_cases hj2:j<12
  ·obtain⟨k,hk,z0⟩:=hrw.out.kinds j (by omega) hj2
   have hji:(j:Int)<12:=by omega
   have hk2:¬ k≤2:=by omega
   clear C0 C1
   go_wp2_with fail
   go_roundg (12-(j+1))
   case measure=>omega
   case rel=>exact⟨j+1,s,t,rfl,by go_num,by omega,hbr,hrw⟩
  ·have hjj:j=12:=by omega
   subst hjj
   clear C0 C1
   go_wp2_with fail
   go_ret
   exact⟨rfl,hbr⟩
def Zl3 (w:World)(g o:Nat):Prop :=
 ∃(k e m:Int) (s t:ByteArray) (la pa:Option Addr) (ln lc pn pc:Nat) (bs:List ByteArray),w.cell? ⟨g,o,none⟩=some (.int .i64 k)∧w.cell? ⟨g,o+1,none⟩=some (.int .i64 e)∧w.cell? ⟨g,o+2,none⟩=some (.int .i64 m)∧w.cell? ⟨g,o+3,none⟩=some (.string s)∧w.cell? ⟨g,o+4,none⟩=some (.string t)∧w.cell? ⟨g,o+5,none⟩=some (.slice la ln lc)∧w.cell? ⟨g,o+6,none⟩=some (.slice pa pn pc) ∧
  s.size≤maxLen∧Zeb w (.slice la ln lc) bs∧bs.length≤2000000∧∀b∈bs,b.size≤1000000000000
theorem Zl3.below {w w':World}{g o:Nat}(h:Zl3 w g o)(hb:Below w.heap.size w w'):Zl3 w' g o:=by
 obtain⟨k,e,m,s,t,la,pa,ln,lc,pn,pc,bs,c0,c1,c2,c3,c4,c5,c6,h1,h2,h3,h4⟩:=h
 exact⟨k,e,m,s,t,la,pa,ln,lc,pn,pc,bs,Below.cellv hb c0,Below.cellv hb c1,Below.cellv hb c2,Below.cellv hb c3,Below.cellv hb c4,Below.cellv hb c5,Below.cellv hb c6,h1,h2.below hb,h3,h4⟩
theorem Z0x (ad:Option Addr)(n cap:Nat)(w:World)(E:Nat→Addr)(S:Zed w E)(hN:Zl4 w)(h15:15≤w.heap.size)(hn:n≤cap)(hc:cap≤maxLen)(hst:∀i,i<n→∃g o,ad=some ⟨g,o,none⟩∧Zl3 w g (o+i*7)):
  Calls prog 4 #[.slice ad n cap,.int .i64 2] w fun e w'=>e=.returned (.bool true)∧Below w.heap.size w w':=by
 unfold maxLen at hc
 have bX:=Zab w (Obj.cells #[.slice none 0 0] 28)
 have hA:Zr9 (w.alloc (Obj.cells #[.slice none 0 0] 28)) w.heap.size:=heap_alloc_new _ _
 have CB:=Z3o w.heap.size _ E (S.below bX) (hN.below bX) (Nat.le_trans h15 bX.size) hA
 obtain⟨X0,hX0⟩:∃X0,X0=w.alloc (Obj.cells #[.slice none 0 0] 28):=⟨_,rfl⟩
 rw[←hX0] at bX hA CB
 have HX0:Aside (X0=w.alloc (Obj.cells #[.slice none 0 0] 28)):=hX0
 clear hX0
 have CT:Hid (∀(X:World) (k e m:Int) (s t:ByteArray) (la pa:Option Addr) (ln lc pn pc:Nat) (bs:List ByteArray),Below X0.heap.size X0 X→k≤2→s.size≤maxLen→Zeb X (.slice la ln lc) bs→bs.length≤2000000→(∀b∈bs,b.size≤1000000000000)→Calls prog 6 #[.pointer (some ⟨w.heap.size,0,none⟩),stepV k e m s t (.slice la ln lc) (.slice pa pn pc)] X fun e w'=>e=.returned (.bool true)∧Below X.heap.size X w'):=fun X k e m s t la pa ln lc pn pc bs hX hk hs ha hl hz=>by
  have hwX:=bX.trans (hX.mono bX.size)
  exact Zqn k e m hk s t la pa ln lc pn pc bs w.heap.size X E (S.below hwX) (hN.below hwX) (Nat.le_trans h15 hwX.size) (hA.below hX) hs ha hl hz
 have ST:Hid (∀(X:World) i,Below X0.heap.size X0 X→i<n→∃g o,ad=some ⟨g,o,none⟩∧Zl3 X g (o+i*7)):=fun X i hX hi=>by
  obtain⟨g,o,e,h⟩:=hst i hi
  exact⟨g,o,e,(h.below bX).below hX⟩
 clear S hN hst h15
 have hA0:=hA
 go_enter func4,ntmps4
 go_wp2_with fail
 rw[←HX0.out]
 refine CB.mono ?_
 rintro e w1 ⟨rfl,hb1⟩
 clear CB HX0
 go_wp2_with fail
 go_loopg [6,7] n (fun gh okv iv wr=>∃q:Nat,gh=n-q∧okv=.bool true∧iv=.int .i64 ((q:Nat):Int)∧q≤n∧Below X0.heap.size X0 wr)
 case atStart=>exact⟨0,by omega,rfl,rfl,by omega,hb1⟩
 case round =>
  obtain⟨q,rfl,rfl,rfl,hq,hbr⟩:=hrel
  by_cases hlt:q<n
  ·obtain⟨g,o,rfl,k,e,m,s,t,la,pa,ln,lc,pn,pc,bs,c0,c1,c2,c3,c4,c5,c6,h1,h2,h3,h4⟩:=ST.out wr q hbr hlt
   have hji:(q:Int)<((n:Nat):Int):=by omega
   by_cases hk:k≤2
   ·have CS:=CT.out wr k e m s t la pa ln lc pn pc bs hbr hk h1 h2 h3 h4
    clear CT ST h2 h4
    go_wp2_with (go_at_call 6;refine CS.mono ?_;rintro e w2 ⟨rfl,hb2⟩)
    go_roundg (n-(q+1))
    case measure=>omega
    case rel=>exact⟨q+1,rfl,rfl,by go_num,by omega,hbr.trans (hb2.mono hbr.size)⟩
   ·clear CT ST h2 h4
    go_wp2_with fail
    go_roundg (n-(q+1))
    case measure=>omega
    case rel=>exact⟨q+1,rfl,rfl,by go_num,by omega,hbr⟩
  ·have hji:¬ (q:Int)<((n:Nat):Int):=by omega
   have c0:=(hA.below hbr).cell
   clear CT ST
   go_wp2_with fail
   go_loop [6,8] (fun okv iv=>okv=.bool true∧iv=.int .i64 0) (fun _ _=>0)
   case atStart=>exact⟨rfl,rfl⟩
   case round =>
    obtain⟨rfl,rfl⟩:=hrel
    go_wp2_with fail
    go_ret
    exact⟨rfl,bX.trans (hbr.mono bX.size)⟩
theorem Zv5 (ad:Option Addr)(n cap:Nat)(w:World)(E:Nat→Addr)(S:Zed w E)(hN:Zl4 w)(h15:15≤w.heap.size)(hn:n≤cap)(hc:cap≤maxLen)(hst:∀i,i<n→∃g o,ad=some ⟨g,o,none⟩∧Zl3 w g (o+i*7)):
  Calls prog 3 #[.slice ad n cap] w fun e w'=>e=.returned (.bool true)∧Below w.heap.size w w':=by
 have CP:=Z0x ad n cap w E S hN h15 hn hc hst
 clear S hN hst
 go_enter func3,ntmps3
 go_wp2_with (go_at_call 4;refine CP.mono ?_;rintro e w1 ⟨rfl,hb1⟩)
 go_ret
 exact⟨rfl,hb1⟩
end Go.Proofs.YtliapghpeoaonaaGreatDoor
namespace Go.Proofs.YtliapghpeoaonaaGreatDoor
open Go.Proofs.Tryz
open Go.ChangeShapes Go.WideShapes Go.RowKit
section
variable {H:Type} {enc:TypeId×Value→H} {w:World} {base:Nat} {sp:Nat→Bool} {held:Bool}
theorem bulk_one {H:Type}(d:DataW H):1≤Rows.uptoBulk d:=by
 cases d with
 | lit l=>cases l<;>simp[Rows.uptoBulk]
 | nil=>simp[Rows.uptoBulk]
 | ptr d=>simp[Rows.uptoBulk]
 | slice elems spare=>simp[Rows.uptoBulk]
 | agg parts=>simp[Rows.uptoBulk]
 | iface t d=>simp[Rows.uptoBulk]
 | map entries=>simp[Rows.uptoBulk]
 | held h=>simp[Rows.uptoBulk]
theorem Zol {H:Type}{d:DataW H}:∀{l:List (DataW H)},d∈l→Rows.uptoBulk d≤Rows.uptoBulkAll l
 | [],h=>by cases h
 | x::r,h=>by
  simp only[Rows.uptoBulkAll]
  rcases List.mem_cons.1 h with rfl | e
  ·omega
  ·have:=Zol e
   omega
theorem Zw6 {H:Type}:∀(l:List (DataW H)),l.length≤Rows.uptoBulkAll l
 | []=>by simp[Rows.uptoBulkAll]
 | x::r=>by
  have h1:=bulk_one x
  have h2:=Zw6 r
  simp only[Rows.uptoBulkAll,List.length_cons]
  omega
theorem take1 {l:List Value}{o:Nat}{v:Value}(h:(l.drop o).take 1=[v]):l[o]?=some v:=by
 have:=congrArg (·[0]?) h
 simpa[List.getElem?_take,List.getElem?_drop] using this
theorem Zsm {P:Program}{t:TypeId}{f0 f1 f2 f3 f4 f5 f6:Field}{fuel:Nat}{cs:List Value}{x:DataW H×List MemPlace}(ht:P.underlying t=some (.struct #[f0,f1,f2,f3,f4,f5,f6]))(h:DataW.trod enc P w base sp held fuel t cs=some x):
  ∃y0 y1 y2 y3 y4 y5 y6 n,x.1=.agg [y0.1,y1.1,y2.1,y3.1,y4.1,y5.1,y6.1]∧DataW.trod enc P w base sp held n f0.type ((cs.drop f0.offset).take (P.cellsOf f0.type))=some y0∧DataW.trod enc P w base sp held n f1.type ((cs.drop f1.offset).take (P.cellsOf f1.type))=some y1∧DataW.trod enc P w base sp held n f2.type ((cs.drop f2.offset).take (P.cellsOf f2.type))=some y2∧DataW.trod enc P w base sp held n f3.type ((cs.drop f3.offset).take (P.cellsOf f3.type))=some y3∧DataW.trod enc P w base sp held n f4.type ((cs.drop f4.offset).take (P.cellsOf f4.type))=some y4∧DataW.trod enc P w base sp held n f5.type ((cs.drop f5.offset).take (P.cellsOf f5.type))=some y5∧DataW.trod enc P w base sp held n f6.type ((cs.drop f6.offset).take (P.cellsOf f6.type))=some y6:=by
 obtain⟨xs,n,_,rfl,hl,hlen,hf⟩:=DataW.trod_struct ht h
 match xs,hlen with
 | [y0,y1,y2,y3,y4,y5,y6],_=>exact⟨y0,y1,y2,y3,y4,y5,y6,n,rfl,by simpa using hf 0 f0 rfl,by simpa using hf 1 f1 rfl,by simpa using hf 2 f2 rfl,by simpa using hf 3 f3 rfl,by simpa using hf 4 f4 rfl,by simpa using hf 5 f5 rfl,by simpa using hf 6 f6 rfl⟩
theorem Tryz.cellsInt:prog.cellsOf 3=1:=by kernel_rfl
theorem Tryz.cellsStrR:prog.cellsOf 9=1:=by kernel_rfl
theorem Tryz.cellsStrs:prog.cellsOf 30=1:=by kernel_rfl
theorem Tryz.cellsInts:prog.cellsOf 31=1:=by kernel_rfl
theorem Tryz.cellsStep:prog.cellsOf 33=7:=by kernel_rfl
theorem Z1f {fuel:Nat}{v:Value}{x:DataW H×List MemPlace}(h:DataW.trod enc prog w base (fun _=>true) held fuel 30 [v]=some x)(hb:Rows.uptoBulk x.1≤1048576):
  ∃la ln lc bs,v=.slice la ln lc∧Zeb w (.slice la ln lc) bs∧bs.length≤2000000∧∀b∈bs,b.size≤1000000000000:=by
 rcases open_strings underlying30 underlying9 Tryz.cellsStrR h with ⟨hcs,hx⟩ | ⟨a,len,cap,ss,hcs,_,hl,hm,hz,hx,hcell,hws⟩
 ·cases hcs
  exact⟨none,0,0,[],rfl,Z1l w,by simp,by simp⟩
 ·cases hcs
  subst hx
  simp only[if_true] at hz
  have hbl:(ss.take len).length=len:=by simp;omega
  simp only[Rows.uptoBulk] at hb
  have h1:=Zw6 (strs (H:=H) (ss.take len))
  have h1':(strs (H:=H) (ss.take len)).length=len:=by simp[strs];omega
  refine⟨some a,len,cap,ss.take len,rfl,⟨some a,cap,by rw[hbl],by omega,hm,fun b hb=>hws b (List.mem_of_mem_take hb),fun i hi=>?_⟩,by omega,fun b hbm=>?_⟩
  ·have hc:=hcell i (by omega)
   have hc0:=hcell 0 (by omega)
   obtain⟨g,o,spot⟩:=a
   have hspot:spot=none:=by simpa[Addr.add] using World.cell?_spot hc0
   subst hspot
   refine⟨g,o,rfl,?_⟩
   rw[show (⟨g,o,none⟩:Addr).add i=⟨g,o+i,none⟩ by simp[Addr.add]] at hc
   rw[hc,List.getElem_take]
   simp[List.getD_eq_getElem?_getD,List.getElem?_eq_getElem (show i<ss.length by omega)]
  ·have hmem:(DataW.lit (.string b.data.toList):DataW H)∈strs (ss.take len):=by
    unfold strs
    exact List.mem_map.2 ⟨b,hbm,rfl⟩
   have h2:=Zol hmem
   simp only[Rows.uptoBulk] at h2
   rw[Zax] at h2
   omega
theorem Z1e {fuel g o:Nat}{cs:List Value}{x:DataW H×List MemPlace}(hc:w.cells? base ⟨g,o,none⟩ 7=some cs)(h:DataW.trod enc prog w base (fun _=>true) held fuel 33 cs=some x)(hb:Rows.uptoBulk x.1≤1048576):Zl3 w g o:=by
 obtain⟨_,hlen,hcell⟩:=World.cells?_some hc
 have at_:∀i v,i<7→cs[i]?=some v→w.cell? ⟨g,o+i,none⟩=some v:=fun i v hi hv=>by
  have:=hcell i hi
  rw[show (⟨g,o,none⟩:Addr).add i=⟨g,o+i,none⟩ by simp[Addr.add]] at this
  rw[this,hv]
 obtain⟨y0,y1,y2,y3,y4,y5,y6,n,hx,t0,t1,t2,t3,t4,t5,t6⟩:=Zsm underlying33 h
 rw[hx] at hb
 simp only[Rows.uptoBulk,Rows.uptoBulkAll] at hb
 simp only[Tryz.cellsInt,Tryz.cellsStrR,Tryz.cellsStrs,Tryz.cellsInts] at t0 t1 t2 t3 t4 t5 t6
 obtain⟨k,e0,_,_⟩:=DataW.trod_int underlying3 t0
 obtain⟨e,e1,_,_⟩:=DataW.trod_int underlying3 t1
 obtain⟨m,e2,_,_⟩:=DataW.trod_int underlying3 t2
 obtain⟨s,e3,_,hs⟩:=DataW.trod_string underlying9 t3
 obtain⟨t,e4,_,_⟩:=DataW.trod_string underlying9 t4
 have hl5:∃v5,cs[5]?=some v5:=⟨cs[5],List.getElem?_eq_getElem (by omega)⟩
 obtain⟨v5,h5⟩:=hl5
 have e5:(cs.drop 5).take 1=[v5]:=by
  rw[List.drop_eq_getElem_cons (show 5<cs.length by omega)]
  rw[List.getElem?_eq_getElem (show 5<cs.length by omega)] at h5
  cases h5
  rfl
 rw[e5] at t5
 obtain⟨la,ln,lc,bs,rfl,ha,hbl,hbz⟩:=Z1f t5 (by omega)
 obtain⟨pa,pn,pc,e6⟩:∃pa pn pc,(cs.drop 6).take 1=[.slice pa pn pc]:=by
  rcases DataW.trod_slice underlying31 t6 with ⟨h0,_⟩ | ⟨a,len,cap,_,_,_,_,h0,_⟩
  ·exact⟨_,_,_,h0⟩
  ·exact⟨_,_,_,h0⟩
 exact⟨k,e,m,s,t,la,pa,ln,lc,pn,pc,bs,at_ 0 _ (by omega) (take1 e0),at_ 1 _ (by omega) (take1 e1),at_ 2 _ (by omega) (take1 e2),at_ 3 _ (by omega) (take1 e3),at_ 4 _ (by omega) (take1 e4),at_ 5 _ (by omega) h5,at_ 6 _ (by omega) (take1 e6),hs,ha,hbl,hbz⟩
set_option maxRecDepth 8000 in
theorem Zvf {fuel:Nat}{ad:Option Addr}{n cap:Nat}{x:DataW H×List MemPlace}(h:DataW.trod enc prog w base (fun _=>true) held fuel 22 [.slice ad n cap]=some x)(hb:Rows.uptoBulk x.1≤1048576):
  n≤cap∧cap≤maxLen∧∀i,i<n→∃g o,ad=some ⟨g,o,none⟩∧Zl3 w g (o+i*7):=by
 rcases DataW.trod_slice underlying22 h with ⟨h0,_⟩ | ⟨a,len,cap',elems,rest,m,_,h0,hx,_,hl,hm,hlen,hel,_,_⟩
 ·cases h0
  exact⟨Nat.le_refl _,by decide,fun i hi=>by omega⟩
 ·cases h0
  refine⟨hl,hm,fun i hi=>?_⟩
  have h1:=hel i hi
  rw[Tryz.cellsStep,List.getElem?_eq_getElem (show i<elems.length by omega),Option.bind_eq_some_iff] at h1
  obtain⟨cs,hcs,hy⟩:=h1
  have hbi:Rows.uptoBulk (elems[i]'(by omega)).1≤1048576:=by
   rw[hx] at hb
   simp only[Rows.uptoBulk] at hb
   have h2:=Zol (List.mem_map.2 ⟨elems[i]'(by omega),List.getElem_mem _,rfl⟩:(elems[i]'(by omega)).1∈elems.map (·.1))
   omega
  have h3:=hel 0 (by omega)
  rw[Tryz.cellsStep,List.getElem?_eq_getElem (show 0<elems.length by omega),Option.bind_eq_some_iff] at h3
  obtain⟨cs0,hcs0,_⟩:=h3
  obtain⟨g,o,spot⟩:=a
  have hspot:spot=none:=by
   obtain⟨_,hcl,hcc⟩:=World.cells?_some hcs0
   have:=hcc 0 (by omega)
   rw[List.getElem?_eq_getElem (by omega)] at this
   simpa[Addr.add] using World.cell?_spot this
  subst hspot
  rw[show (⟨g,o,none⟩:Addr).add (i*7)=⟨g,o+i*7,none⟩ by simp[Addr.add]] at hcs
  exact⟨g,o,rfl,Z1e hcs hy hbi⟩
end
end Go.Proofs.YtliapghpeoaonaaGreatDoor
