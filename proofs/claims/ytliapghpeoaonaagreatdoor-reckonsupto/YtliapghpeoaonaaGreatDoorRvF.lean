/-
  The reference: a value at a place of a text: texts and numbers.
-/
import Derived.Test.YtliapghpeoaonaaGreatDoorRvB
import Derived.Test.YtliapghpeoaonaaGreatDoorVal
import Derived.Test.YtliapghpeoaonaaGreatDoorRefA
import Derived.Lib.Strings
import Derived.OwnWalk
import Derived.Maps.AppendAt
set_option maxHeartbeats 4000000
set_option maxRecDepth 8000
namespace Go.Proofs.YtliapghpeoaonaaGreatDoor
open Go.Proofs.Tryz
open Go.RowKit Go.Lib
attribute [local go_sem ↓] Go.wp_at_zero Go.wp_at_succ
def Zlf (L:List UInt8)(o:Option (PV×List UInt8))(w:World)(e:Ending)(w':World):Prop :=
 Below w.heap.size w w'∧match o with
 | none=>∃(k z p:Int) (s:ByteArray) (ad:Option Addr) (n c:Nat),e=.returned (.tuple #[.agg #[.int .u8 k,.int .i64 z,.string s,.slice ad n c],.int .i64 p,.bool false])
 | some (v,r)=>∃(x:Value) (p:Nat),e=.returned (.tuple #[x,.int .i64 (p:Int),.bool true])∧p≤L.length∧r=L.drop p∧RV w' (w.heap.size≤·) v x
theorem Zda {s:ByteArray}{a:Nat}{c:UInt8}(h:a<s.size):Zad c (s.data.toList.drop a)=(((s[a].toNat:Nat):Int)==(c.toNat:Int)):=by
 have:(s.data.toList.drop a)[0]?=some s[a]:=by
  rw[List.getElem?_drop,Nat.add_zero,List.getElem?_eq_getElem (by simpa using h)]
  rfl
 rw[Zad,this,Bool.eq_iff_iff]
 simp only[beq_iff_eq,Option.some.injEq,←UInt8.toNat_inj]
 omega
theorem Zhy {s:ByteArray}{a:Nat}{c:UInt8}(h:s.size≤a):Zad c (s.data.toList.drop a)=false:=by
 rw[List.drop_eq_nil_of_le (by simpa using h)]
 rfl
theorem Zca (s:ByteArray):s.data.toList.length=s.size:=by simp
theorem Zbi {B:Nat}{a w:World}(h:Below B a w)(_hB:B≤a.heap.size){b:Nat}(hb:B≤b)(v0 v1 v2 v3:Value):Below B a ((((w.setCell ⟨b,0,none⟩ v0).setCell ⟨b,1,none⟩ v1).setCell ⟨b,2,none⟩ v2).setCell ⟨b,3,none⟩ v3) :=
 (((h.setCell (p:=⟨b,0,none⟩) hb _).setCell (p:=⟨b,1,none⟩) hb _).setCell (p:=⟨b,2,none⟩) hb _).setCell (p:=⟨b,3,none⟩) hb _
theorem Zxr (s:ByteArray)(a:Nat)(w:World)(hs:s.size≤20000)(ha:a<s.size)(hq:Zad 39 (s.data.toList.drop a)=true)(h4:Zad 40 (s.data.toList.drop a)=false):
  Calls prog 69 #[.string s,.int .i64 ((a:Nat):Int)] w (Zlf s.data.toList (Zhl (s.data.toList.drop a)) w):=by
 have cr:=fun W=>rrun_3 s (a+1) W (by unfold maxLen;omega) (by omega)
 have e1:(s.data.toList.drop a).drop 1=s.data.toList.drop (a+1):=by rw[List.drop_drop]
 rw[Zsz h4 hq,e1]
 clear e1
 rw[Zda ha] at hq
 have hq2:(((s[a].toNat:Nat):Int)==39)=true:=hq
 clear hq h4
 have hrl:=Zdb Zc0 (s.data.toList.drop (a+1))
 rw[List.length_drop,Zca] at hrl
 generalize hn:Zbd Zc0 (s.data.toList.drop (a+1))=n at *
 clear hn
 rw[show ((a+1:Nat):Int)=(a:Int)+1 by omega] at cr
 by_cases hend:a+1+n<s.size
 ·cases hc:Zad 39 ((s.data.toList.drop (a+1)).drop n) with
  | true =>
   rw[List.drop_drop,Zda hend] at hc
   have hc2:(((s[a+1+n].toNat:Nat):Int)==39)=true:=hc
   clear hc
   simp only[if_true]
   go_enter func69,ntmps69
   go_wp2_with (go_at_call 88;refine (cr _).mono ?_;rintro e w2 ⟨rfl,rfl⟩)
   refine bodyPost_ret (v:=.tuple #[.agg #[.int .u8 116,.int .i64 0,.string (s.extract (a+1) (a+1+n)),.slice none 0 0],.int .i64 ((a+1+n+1:Nat):Int),.bool true]) (by simp[results,results69,go_sem]) rfl ⟨Zab w _,_,_,rfl,by rw[Zca];omega,?_,?_⟩
   ·rw[List.drop_drop,List.drop_drop,Nat.add_assoc (a+1)]
   ·rw[RV]
    refine⟨_,?_,rfl⟩
    rw[Lib.extract_data,show a+1+n-(a+1)=n by omega]
  | false =>
   rw[List.drop_drop,Zda hend] at hc
   have hc2:(((s[a+1+n].toNat:Nat):Int)==39)=false:=hc
   clear hc
   simp only[Bool.false_eq_true,if_false]
   go_enter func69,ntmps69
   go_wp2_with (go_at_call 88;refine (cr _).mono ?_;rintro e w2 ⟨rfl,rfl⟩)
   exact bodyPost_ret (v:=.tuple #[.agg #[.int .u8 0,.int .i64 0,.string ⟨#[]⟩,.slice none 0 0],.int .i64 ((a:Nat):Int),.bool false]) (by simp[results,results69,go_sem]) rfl ⟨Zab w _,_,_,_,_,_,_,_,rfl⟩
 ·rw[List.drop_drop,Zhy (by omega)]
  simp only[Bool.false_eq_true,if_false]
  go_enter func69,ntmps69
  go_wp2_with (go_at_call 88;refine (cr _).mono ?_;rintro e w2 ⟨rfl,rfl⟩)
  exact bodyPost_ret (v:=.tuple #[.agg #[.int .u8 0,.int .i64 0,.string ⟨#[]⟩,.slice none 0 0],.int .i64 ((a:Nat):Int),.bool false]) (by simp[results,results69,go_sem]) rfl ⟨Zab w _,_,_,_,_,_,_,_,rfl⟩
theorem Zsg (l:List UInt8):Zcd l=(if Zad 45 l then 1+Zbd Zav (l.drop 1) else Zbd Zav l):=by
 unfold Zcd Zaj
 split
 ·rename_i h
  have:=congrArg List.length (Zcg h)
  rw[List.length_cons] at this
  omega
 ·omega
theorem Z2w (l:List UInt8):∀c∈Zaj (l.take (Zcd l)),Zav c=true:=by
 rw[Zsg]
 cases h:Zad 45 l with
 | true =>
  rw[if_pos rfl]
  have e:=Zcg h
  have e2:l.take (1+Zbd Zav (l.drop 1))=45::(l.drop 1).take (Zbd Zav (l.drop 1)):=by
   conv=>lhs;rw[e,Nat.add_comm,List.take_succ_cons]
   rfl
  rw[e2]
  unfold Zaj
  simp only[Zad,List.getElem?_cons_zero,beq_self_eq_true,if_true,List.drop_succ_cons,List.drop_zero]
  exact Zjq Zav _
 | false =>
  simp only[Bool.false_eq_true,if_false]
  intro c hc
  have hu:Zaj (l.take (Zbd Zav l))=l.take (Zbd Zav l):=by
   unfold Zaj
   have:Zad 45 (l.take (Zbd Zav l))=false:=by
    cases l with
    | nil=>rfl
    | cons x r =>
     cases hr:Zbd Zav (x::r) with
     | zero=>rfl
     | succ m=>simpa[Zad] using h
   rw[this]
   simp
  rw[hu] at hc
  exact Zjq Zav l c hc
theorem Zsn (s:ByteArray)(a:Nat)(w:World)(hs:s.size≤20000)(ha:a≤s.size)(d n:Nat)(hd1:d≤1)(hdn:a+d+n≤s.size)(hrun:Zbd Zav (s.data.toList.drop (a+d))=n)
  (hsg:(a=s.size∧d=0)∨∃h:a<s.size,(((s[a].toNat:Nat):Int)==39)=false∧(((s[a].toNat:Nat):Int)==40)=false∧(((s[a].toNat:Nat):Int)==45)=decide (d=1))
  (O:Option Int) (hO:20<d+n→O=none) (cn:d+n≤20→∀W,Calls prog 117 #[.string (s.extract a (a+d+n))] W fun e w'=>(∃z:Int,e=.returned (.tuple #[.int .i64 z,.bool O.isSome])∧∀u,O=some u→z=u)∧w'=W) :
  Calls prog 69 #[.string s,.int .i64 ((a:Nat):Int)] w (Zlf s.data.toList (O.map fun z=>(PV.num z,(s.data.toList.drop a).drop (d+n))) w):=by
 have cr:=fun W=>Z0l s (a+d) W (by unfold maxLen;omega) (by omega)
 rw[hrun] at cr
 clear hrun
 by_cases hl:20<d+n
 ·obtain rfl:=hO hl
  clear cn hO
  rcases hsg with ⟨rfl,rfl⟩ | ⟨h,h1,h2,h3⟩
  ·omega
  ·have hdd:d=0∨d=1:=by omega
   rcases hdd with rfl | rfl
   ·simp only[Nat.add_zero] at cr
    simp only[Nat.add_zero,Nat.zero_ne_one,decide_false,Nat.zero_add] at h3 hl hdn
    go_enter func69,ntmps69
    go_wp2_with (go_at_call 88;refine (cr _).mono ?_;rintro e w2 ⟨rfl,rfl⟩)
    exact bodyPost_ret (v:=.tuple #[.agg #[.int .u8 0,.int .i64 0,.string ⟨#[]⟩,.slice none 0 0],.int .i64 ((a:Nat):Int),.bool false]) (by simp[results,results69,go_sem]) rfl ⟨Zab w _,_,_,_,_,_,_,_,rfl⟩
   ·rw[show ((a+1:Nat):Int)=(a:Int)+1 by omega] at cr
    simp only[decide_true] at h3
    go_enter func69,ntmps69
    go_wp2_with (go_at_call 88;refine (cr _).mono ?_;rintro e w2 ⟨rfl,rfl⟩)
    exact bodyPost_ret (v:=.tuple #[.agg #[.int .u8 0,.int .i64 0,.string ⟨#[]⟩,.slice none 0 0],.int .i64 ((a:Nat):Int),.bool false]) (by simp[results,results69,go_sem]) rfl ⟨Zab w _,_,_,_,_,_,_,_,rfl⟩
 ·have cn2:=cn (by omega)
  clear cn hO
  rcases hsg with ⟨rfl,rfl⟩ | ⟨h,h1,h2,h3⟩
  ·have hn0:n=0:=by omega
   subst hn0
   simp only[Nat.add_zero] at cr cn2
   rw[show s.extract s.size s.size=ByteArray.empty by simp] at cn2
   cases O with
   | none =>
    simp only[Option.isSome_none] at cn2
    go_enter func69,ntmps69
    go_wp2_with (first | (go_at_call 88;refine (cr _).mono ?_;rintro e w2 ⟨rfl,rfl⟩) | (go_at_call 117;refine (cn2 _).mono ?_;rintro e w2 ⟨⟨z,rfl,hz⟩,rfl⟩))
    exact bodyPost_ret (v:=.tuple #[.agg #[.int .u8 110,.int .i64 z,.string ⟨#[]⟩,.slice none 0 0],.int .i64 ((s.size:Nat):Int),.bool false]) (by simp[results,results69,go_sem]) rfl ⟨Zab w _,_,_,_,_,_,_,_,rfl⟩
   | some u =>
    simp only[Option.isSome_some] at cn2
    go_enter func69,ntmps69
    go_wp2_with (first | (go_at_call 88;refine (cr _).mono ?_;rintro e w2 ⟨rfl,rfl⟩) | (go_at_call 117;refine (cn2 _).mono ?_;rintro e w2 ⟨⟨z,rfl,hz⟩,rfl⟩))
    refine bodyPost_ret (v:=.tuple #[.agg #[.int .u8 110,.int .i64 u,.string ⟨#[]⟩,.slice none 0 0],.int .i64 ((s.size:Nat):Int),.bool true]) (by simp[results,results69,go_sem]) rfl ⟨Zab w _,_,_,rfl,by rw[Zca];omega,?_,?_⟩
    ·rw[List.drop_drop]
     congr 1
     try omega
    ·rw[RV]
  ·have hdd:d=0∨d=1:=by omega
   rcases hdd with rfl | rfl
   ·simp only[Nat.add_zero] at cr cn2
    simp only[Nat.add_zero,Nat.zero_ne_one,decide_false,Nat.zero_add] at h3 hl hdn
    cases O with
    | none =>
     simp only[Option.isSome_none] at cn2
     go_enter func69,ntmps69
     go_wp2_with (first | (go_at_call 88;refine (cr _).mono ?_;rintro e w2 ⟨rfl,rfl⟩) | (go_at_call 117;refine (cn2 _).mono ?_;rintro e w2 ⟨⟨z,rfl,hz⟩,rfl⟩))
     exact bodyPost_ret (v:=.tuple #[.agg #[.int .u8 110,.int .i64 z,.string ⟨#[]⟩,.slice none 0 0],.int .i64 ((a+n:Nat):Int),.bool false]) (by simp[results,results69,go_sem]) rfl ⟨Zab w _,_,_,_,_,_,_,_,rfl⟩
    | some u =>
     simp only[Option.isSome_some] at cn2
     go_enter func69,ntmps69
     go_wp2_with (first | (go_at_call 88;refine (cr _).mono ?_;rintro e w2 ⟨rfl,rfl⟩) | (go_at_call 117;refine (cn2 _).mono ?_;rintro e w2 ⟨⟨z,rfl,hz⟩,rfl⟩))
     refine bodyPost_ret (v:=.tuple #[.agg #[.int .u8 110,.int .i64 u,.string ⟨#[]⟩,.slice none 0 0],.int .i64 ((a+n:Nat):Int),.bool true]) (by simp[results,results69,go_sem]) rfl ⟨Zab w _,_,_,rfl,by rw[Zca];omega,?_,?_⟩
     ·rw[List.drop_drop]
      congr 1
      try omega
     ·rw[RV]
   ·rw[show ((a+1:Nat):Int)=(a:Int)+1 by omega] at cr
    simp only[decide_true] at h3
    cases O with
    | none =>
     simp only[Option.isSome_none] at cn2
     go_enter func69,ntmps69
     go_wp2_with (first | (go_at_call 88;refine (cr _).mono ?_;rintro e w2 ⟨rfl,rfl⟩) | (go_at_call 117;refine (cn2 _).mono ?_;rintro e w2 ⟨⟨z,rfl,hz⟩,rfl⟩))
     exact bodyPost_ret (v:=.tuple #[.agg #[.int .u8 110,.int .i64 z,.string ⟨#[]⟩,.slice none 0 0],.int .i64 ((a+1+n:Nat):Int),.bool false]) (by simp[results,results69,go_sem]) rfl ⟨Zab w _,_,_,_,_,_,_,_,rfl⟩
    | some u =>
     simp only[Option.isSome_some] at cn2
     go_enter func69,ntmps69
     go_wp2_with (first | (go_at_call 88;refine (cr _).mono ?_;rintro e w2 ⟨rfl,rfl⟩) | (go_at_call 117;refine (cn2 _).mono ?_;rintro e w2 ⟨⟨z,rfl,hz⟩,rfl⟩))
     refine bodyPost_ret (v:=.tuple #[.agg #[.int .u8 110,.int .i64 u,.string ⟨#[]⟩,.slice none 0 0],.int .i64 ((a+1+n:Nat):Int),.bool true]) (by simp[results,results69,go_sem]) rfl ⟨Zab w _,_,_,rfl,by rw[Zca];omega,?_,?_⟩
     ·rw[List.drop_drop]
      congr 1
      try omega
     ·rw[RV]
theorem Z0b (s:ByteArray)(a:Nat)(w:World)(hs:s.size≤20000)(ha:a≤s.size)(hq:Zad 39 (s.data.toList.drop a)=false)(h4:Zad 40 (s.data.toList.drop a)=false):
  Calls prog 69 #[.string s,.int .i64 ((a:Nat):Int)] w (Zlf s.data.toList (Zhl (s.data.toList.drop a)) w):=by
 rw[Zwk h4 hq]
 have hds:=Z2w (s.data.toList.drop a)
 have hnl:=Ztd (s.data.toList.drop a)
 rw[List.length_drop,Zca] at hnl
 have hun:=Zsg (s.data.toList.drop a)
 have key:∀d n:Nat,Zcd (s.data.toList.drop a)=d+n→d≤1→Zbd Zav (s.data.toList.drop (a+d))=n→((a=s.size∧d=0)∨∃h:a<s.size,(((s[a].toNat:Nat):Int)==39)=false∧(((s[a].toNat:Nat):Int)==40)=false∧(((s[a].toNat:Nat):Int)==45)=decide (d=1)) →
   Calls prog 69 #[.string s,.int .i64 ((a:Nat):Int)] w (Zlf s.data.toList ((Zfm ((s.data.toList.drop a).take (Zcd (s.data.toList.drop a)))).map fun z=>(PV.num z,(s.data.toList.drop a).drop (Zcd (s.data.toList.drop a)))) w):=by
  intro d n hN hd1 hr hsg
  rw[hN] at hnl hds ⊢
  have hex:(s.extract a (a+d+n)).data.toList=(s.data.toList.drop a).take (d+n):=by rw[Lib.extract_data,show a+d+n-a=d+n by omega]
  have hsz:(s.extract a (a+d+n)).size=d+n:=by rw[←Zca,hex,List.length_take,List.length_drop,Zca];omega
  refine Zsn s a w hs ha d n hd1 (by omega) hr hsg _ (fun h=>Z1k (by rw[List.length_take,List.length_drop,Zca];omega)) fun h W=>?_
  have:=Zvg (s.extract a (a+d+n)) W (by omega) (by rw[hex];exact hds)
  rw[hex] at this
  exact this
 by_cases hlt:a<s.size
 ·rw[Zda hlt] at hq h4
  cases h45:Zad 45 (s.data.toList.drop a) with
  | true =>
   rw[h45,if_pos rfl] at hun
   rw[Zda hlt] at h45
   have e1:(s.data.toList.drop a).drop 1=s.data.toList.drop (a+1):=by rw[List.drop_drop]
   rw[e1] at hun
   exact key 1 _ hun (by omega) rfl (Or.inr ⟨hlt,hq,h4,h45⟩)
  | false =>
   rw[h45] at hun
   simp only[Bool.false_eq_true,if_false] at hun
   rw[Zda hlt] at h45
   exact key 0 _ (by rw[hun,Nat.zero_add];rfl) (by omega) rfl (Or.inr ⟨hlt,hq,h4,h45⟩)
 ·rw[Zhy (by omega)] at hun
  simp only[Bool.false_eq_true,if_false] at hun
  exact key 0 _ (by rw[hun,Nat.zero_add];rfl) (by omega) rfl (Or.inl ⟨by omega,rfl⟩)
theorem Tryz.infoVal:(prog.info? 46).map (fun i=>(i.zero,i.size,i.bytes))=some (some (.agg #[.int .u8 0,.int .i64 0,.string ⟨#[]⟩,.slice none 0 0]),4,56):=by kernel_rfl
theorem Ziw (w:World)(x1 x2 x3 x4:Value)(t:TypeId):∀j v,[x1,x2,x3,x4][j]?=some v→(w.alloc (.cells #[x1,x2,x3,x4] t)).cell? ((⟨w.heap.size,0,none⟩:Addr).add j)=some v:=by
 intro j v hj
 match j,hj with
 | 0,hj=>simp at hj;subst hj;simp[Addr.add]
 | 1,hj=>simp at hj;subst hj;simp[Addr.add]
 | 2,hj=>simp at hj;subst hj;simp[Addr.add]
 | 3,hj=>simp at hj;subst hj;simp[Addr.add]
 | j+4,hj=>simp at hj
theorem Ziv (w:World)(o:Obj)(x1 x2 x3 x4:Value)(t:TypeId):∀j v,[x1,x2,x3,x4][j]?=some v→((w.alloc o).alloc (.cells #[x1,x2,x3,x4] t)).cell? ((⟨w.heap.size+1,0,none⟩:Addr).add j)=some v:=by
 have:=Ziw (w.alloc o) x1 x2 x3 x4 t
 simpa using this
abbrev Zaz:Obj:=Zce (.int .u8 0) (.int .i64 0) (.string ⟨#[]⟩) (.slice none 0 0)
structure TL (w wr:World)(ad:Option Addr)(cap:Nat)(vs:List PV)(cs:List Value):Prop where
 hb:Below w.heap.size w wr
 rb:wr.heap[w.heap.size]?=some Zaz
 vb:wr.heap[w.heap.size+1]?=some (Zce (.int .u8 108) (.int .i64 0) (.string ⟨#[]⟩) (.slice ad vs.length cap))
 own:wr.ownsRow (w.heap.size+2) 46 4 (.slice ad vs.length cap) vs.length cs
 val:RVs wr (fun g=>w.heap.size+2≤g∧some g≠(Value.slice ad vs.length cap).ownBlock) vs cs
theorem TL.start (w:World):TL w ((w.alloc Zaz).alloc (Zce (.int .u8 108) (.int .i64 0) (.string ⟨#[]⟩) (.slice none 0 0))) none 0 [] []:=by
 refine⟨below2 w _ _,?_,?_,?_,by rw[RVs]⟩
 ·rw[Za0 _ _ _ (by simp)];exact heap_alloc_new _ _
 ·have:=heap_alloc_new (w.alloc Zaz) (Zce (.int .u8 108) (.int .i64 0) (.string ⟨#[]⟩) (.slice none 0 0))
  simpa using this
 ·exact⟨rfl,Or.inl ⟨rfl,rfl⟩⟩
theorem Zak {w:World}{b:Nat}{a0 a1 a2 a3:Value}(h:w.heap[b]?=some (Zce a0 a1 a2 a3)):w.cell? ⟨b,0,none⟩=some a0∧w.cell? ⟨b,1,none⟩=some a1∧w.cell? ⟨b,2,none⟩=some a2∧w.cell? ⟨b,3,none⟩=some a3∧∀j,w.frozen? ⟨b,j,none⟩=false:=by
 refine⟨?_,?_,?_,?_,fun j=>?_⟩
 ·unfold World.cell?;rw[h];rfl
 ·unfold World.cell?;rw[h];rfl
 ·unfold World.cell?;rw[h];rfl
 ·unfold World.cell?;rw[h];rfl
 ·unfold World.frozen?;rw[h];rfl
theorem TL.step {w wr w2 w5:World}{ad ad':Option Addr}{cap cap':Nat}{vs:List PV}{cs:List Value}{o1 o2:Obj}{v:PV}{x0 x1 x2 x3:Value}(h:TL w wr ad cap vs cs)(hb2:Below wr.heap.size wr w2)(hv:RV w2 (wr.heap.size≤·) v (.agg #[x0,x1,x2,x3]))
  (own5:w5.ownsRow (w.heap.size+2) 46 4 (.slice ad' (vs.length+1) cap') (vs.length+1) (cs++[x0,x1,x2,x3])) (hg:((w2.alloc o1).alloc o2).grownBy w5 (Value.slice ad vs.length cap).ownBlock)
  (hat:(Value.slice ad' (vs.length+1) cap').ownBlock=(Value.slice ad vs.length cap).ownBlock∨(Value.slice ad' (vs.length+1) cap').ownBlock=some ((w2.alloc o1).alloc o2).heap.size) :
  TL w (w5.setCell ⟨w.heap.size+1,3,none⟩ (.slice ad' (vs.length+1) cap')) ad' cap' (vs++[v]) (cs++[x0,x1,x2,x3])∧w5.heap[w.heap.size+1]?=some (Zce (.int .u8 108) (.int .i64 0) (.string ⟨#[]⟩) (.slice ad vs.length cap)):=by
 have sz2:=hb2.size
 have sz5:=hg.size
 simp at sz5
 have ltv:=Zag h.vb
 have ltk:∀g,(Value.slice ad vs.length cap).ownBlock=some g→w.heap.size+2≤g∧g<wr.heap.size:=fun g e=>h.own.lt g e
 have ltk':∀g,(Value.slice ad' (vs.length+1) cap').ownBlock=some g→w.heap.size+2≤g:=fun g e=>(own5.lt g e).1
 have b5:∀g,g<wr.heap.size→some g≠(Value.slice ad vs.length cap).ownBlock→w5.heap[g]?=wr.heap[g]?:=fun g hg1 hn=>by
  rw[hg.block g (by simp;omega) hn,Za0 _ _ _ (by simp;omega),Za0 _ _ _ (by omega),hb2.block g hg1]
 have b6:∀g,g<w2.heap.size→wr.heap.size≤g→w5.heap[g]?=w2.heap[g]?:=fun g hg1 hg2=>by
  rw[hg.block g (by simp;omega) (fun e=>by have:=(ltk g e.symm).2;omega),Za0 _ _ _ (by simp;omega),Za0 _ _ _ (by omega)]
 have vb5:w5.heap[w.heap.size+1]?=some (Zce (.int .u8 108) (.int .i64 0) (.string ⟨#[]⟩) (.slice ad vs.length cap)):=by
  rw[b5 _ ltv (fun e=>by have:=(ltk _ e.symm).1;omega)];exact h.vb
 have rb5:w5.heap[w.heap.size]?=some Zaz:=by
  rw[b5 _ (by omega) (fun e=>by have:=(ltk _ e.symm).1;omega)];exact h.rb
 have hS:∀g,g≠w.heap.size+1→(w5.setCell ⟨w.heap.size+1,3,none⟩ (.slice ad' (vs.length+1) cap')).heap[g]?=w5.heap[g]?:=fun g hne=>Below.heap_setCell w5 ⟨w.heap.size+1,3,none⟩ _ g hne
 refine⟨⟨?_,?_,?_,?_,?_⟩,vb5⟩
 ·refine Below.setCell (p:=⟨w.heap.size+1,3,none⟩) ?_ (by show w.heap.size≤w.heap.size+1;omega) _
  refine⟨?_,?_,?_,?_,?_⟩
  ·rw[hg.os];exact hb2.os.trans h.hb.os
  ·rw[hg.tape];exact hb2.tape.trans h.hb.tape
  ·rw[hg.output];exact hb2.output.trans h.hb.output
  ·have:=h.hb.size;omega
  ·intro g hg1
   rw[b5 g (by omega) (fun e=>by have:=(ltk g e.symm).1;omega)]
   exact h.hb.block g hg1
 ·rw[hS _ (by omega)];exact rb5
 ·rw[Zau vb5]
  simp
 ·rw[List.length_append]
  exact Zay own5 fun g hg1=>hS g (by have:=ltk' g hg1;omega)
 ·rw[List.length_append]
  refine RVs.append (RVs.one ?_) ?_
  ·refine hv.map fun sl n xs hseg=>?_
   refine ((hseg.keep (w':=w5.setCell ⟨w.heap.size+1,3,none⟩ (.slice ad' (vs.length+1) cap')) fun k hk hlt=>?_)).weaken fun k hk=>?_
   ·rw[hS k (by have:wr.heap.size≤k:=hk;omega),b6 k hlt hk]
   ·have h1:wr.heap.size≤k:=hk.1
    refine⟨by omega,fun e=>?_⟩
    have e:some k=(Value.slice ad' (vs.length+1) cap').ownBlock:=e
    rcases hat with e2 | e2
    ·have:=(ltk k (by rw[←e2,←e])).2;omega
    ·have:some k=some ((w2.alloc o1).alloc o2).heap.size:=by rw[e,←e2]
     have hlt:=hk.2
     simp at this
     omega
  ·refine h.val.map fun sl n xs hseg=>?_
   refine ((hseg.keep (w':=w5.setCell ⟨w.heap.size+1,3,none⟩ (.slice ad' (vs.length+1) cap')) fun k hk hlt=>?_)).weaken fun k hk=>?_
   ·rw[hS k (by have:=hk.1;omega),b5 k hlt hk.2]
   ·refine⟨hk.1.1,fun e=>?_⟩
    have e:some k=(Value.slice ad' (vs.length+1) cap').ownBlock:=e
    rcases hat with e2 | e2
    ·exact hk.1.2 (by rw[e];exact e2)
    ·have:some k=some ((w2.alloc o1).alloc o2).heap.size:=by rw[e,←e2]
     have hlt:=hk.2
     simp at this
     omega
theorem TL.done {w wr:World}{ad:Option Addr}{cap:Nat}{vs:List PV}{cs:List Value}(h:TL w wr ad cap vs cs)(x0 x1 x2 x3:Value):
  Below w.heap.size w ((((wr.setCell ⟨w.heap.size,0,none⟩ x0).setCell ⟨w.heap.size,1,none⟩ x1).setCell ⟨w.heap.size,2,none⟩ x2).setCell ⟨w.heap.size,3,none⟩ x3) ∧
  RV ((((wr.setCell ⟨w.heap.size,0,none⟩ x0).setCell ⟨w.heap.size,1,none⟩ x1).setCell ⟨w.heap.size,2,none⟩ x2).setCell ⟨w.heap.size,3,none⟩ x3) (w.heap.size≤·) (.lst vs) (.agg #[.int .u8 108,.int .i64 0,.string ⟨#[]⟩,.slice ad vs.length cap]):=by
 have hS:∀g,g≠w.heap.size→((((wr.setCell ⟨w.heap.size,0,none⟩ x0).setCell ⟨w.heap.size,1,none⟩ x1).setCell ⟨w.heap.size,2,none⟩ x2).setCell ⟨w.heap.size,3,none⟩ x3).heap[g]?=wr.heap[g]?:=fun g hne=>by
  rw[Below.heap_setCell _ ⟨w.heap.size,3,none⟩ _ g hne,Below.heap_setCell _ ⟨w.heap.size,2,none⟩ _ g hne,Below.heap_setCell _ ⟨w.heap.size,1,none⟩ _ g hne,Below.heap_setCell _ ⟨w.heap.size,0,none⟩ _ g hne]
 refine⟨Zbi h.hb (Nat.le_refl _) (Nat.le_refl _) _ _ _ _,?_⟩
 rw[RV]
 refine⟨_,cs,rfl,?_,?_⟩
 ·refine ((Zar.of_row (Zao.of_owns h.own)).keep fun k hk _=>hS k (by have:w.heap.size+2≤k:=hk;omega)).weaken fun k hk=>?_
  have:w.heap.size+2≤k:=hk.1
  omega
 ·refine h.val.map fun sl n xs hseg=>(hseg.keep fun k hk _=>hS k (by have:=hk.1;omega)).weaken fun k hk=>?_
  have:=hk.1.1
  omega
theorem Zqk {L:List UInt8}{o:Option (List PV×List UInt8)}{w w':World}{k z p:Int}{s:ByteArray}{ad:Option Addr}{n c:Nat}(ho:o=none)(hb:Below w.heap.size w w'):Zlf L (lstR o) w (.returned (.tuple #[.agg #[.int .u8 k,.int .i64 z,.string s,.slice ad n c],.int .i64 p,.bool false])) w':=by
 subst ho
 exact⟨hb,_,_,_,_,_,_,_,rfl⟩
theorem tk_some {L:List UInt8}{o:Option (List PV×List UInt8)}{w w':World}{vs:List PV}{x:Value}{p:Nat}(ho:o=some (vs,L.drop p))(hb:Below w.heap.size w w')(hp:p≤L.length)(hv:RV w' (w.heap.size≤·) (.lst vs) x):Zlf L (lstR o) w (.returned (.tuple #[x,.int .i64 (p:Int),.bool true])) w':=by
 subst ho
 exact⟨hb,_,_,rfl,hp,rfl,hv⟩
theorem rdLx_nil (b:Bool):Zky b []=none:=by
 cases b with
 | true=>exact Zmm rfl (fun h=>by cases h) (by decide +kernel)
 | false=>exact Znr rfl rfl
theorem Zke (us:List PV):Zr6 us none=none:=rfl
def Z30 (s:ByteArray)(m:Nat):Prop:=∀(a:Nat) (w:World),a≤s.size→s.size-a≤m→Calls prog 69 #[.string s,.int .i64 ((a:Nat):Int)] w (Zlf s.data.toList (Zhl (s.data.toList.drop a)) w)
theorem Zxs (s:ByteArray)(a:Nat)(w:World)(hs:s.size≤20000)(ha:a<s.size)(h4:Zad 40 (s.data.toList.drop a)=true)(m:Nat)(hm:s.size-a≤m+1)(ih:Z30 s m):
  Calls prog 69 #[.string s,.int .i64 ((a:Nat):Int)] w (Zlf s.data.toList (Zhl (s.data.toList.drop a)) w):=by
 rw[Zs0 h4]
 rw[Zda ha] at h4
 have h40:(((s[a].toNat:Nat):Int)==40)=true:=h4
 have h39:(((s[a].toNat:Nat):Int)==39)=false:=by
  have:((s[a].toNat:Nat):Int)=40:=by simpa using h40
  rw[this];rfl
 clear h4
 have e1:(s.data.toList.drop a).drop 1=s.data.toList.drop (a+1):=by rw[List.drop_drop]
 rw[e1]
 clear e1
 generalize hR:Zky true (s.data.toList.drop (a+1))=R at *
 have HR:Aside (Zky true (s.data.toList.drop (a+1))=R):=hR
 clear hR
 go_enter func69,ntmps69
 go_wp2_with fail
 go_loopg [1] (s.size-a) (fun gh iv wr=>∃(q:Nat) (vs:List PV) (cs:List Value) (ad:Option Addr) (cap:Nat),gh=s.size+1-q∧iv=.int .i64 ((q:Nat):Int)∧a+1≤q∧q≤s.size∧vs.length≤q∧TL w wr ad cap vs cs∧Aside (R=Zr6 vs (Zky vs.isEmpty (s.data.toList.drop q))))
 case atStart=>exact⟨a+1,[],[],none,0,by omega,by go_num,by omega,by omega,by simp,TL.start w,by show _=_;rw[Zw7];exact HR.out.symm⟩
 case round =>
  obtain⟨q,vs,cs,ad,cap,rfl,rfl,hq1,hq2,hvl,tl,hP⟩:=hrel
  obtain⟨r0,r1,r2,r3,rf⟩:=Zak tl.rb
  obtain⟨v0,v1,v2,v3,vf⟩:=Zak tl.vb
  by_cases hlt:q<s.size
  ·cases hc:Zad 41 (s.data.toList.drop q) with
   | true =>
    have hRR:R=some (vs,s.data.toList.drop (q+1)):=by
     rw[hP.out,Zpu hc]
     simp[Zr6,List.drop_drop]
    rw[Zda hlt] at hc
    have hc1:(((s[q].toNat:Nat):Int)==41)=true:=hc
    have hc2:(((s[q].toNat:Nat):Int) != 41)=false:=by rw[bne,hc1];rfl
    have HRR:Aside (R=some (vs,s.data.toList.drop (q+1))):=hRR
    clear hRR hP
    go_wp2
    exact bodyPost_ret (v:=.tuple #[.agg #[.int .u8 108,.int .i64 0,.string ⟨#[]⟩,.slice ad vs.length cap],.int .i64 ((q+1:Nat):Int),.bool true]) (by simp[results,results69,go_sem,r0,r1,r2,r3]) rfl (tk_some HRR.out (tl.done _ _ _ _).1 (by rw[Zca];omega) (tl.done _ _ _ _).2)
   | false =>
    have hc':=hc
    rw[Zda hlt] at hc
    have hc1:(((s[q].toNat:Nat):Int)==41)=false:=hc
    have hc2:(((s[q].toNat:Nat):Int) != 41)=true:=by rw[bne,hc1];rfl
    clear hc
    have lt1:w.heap.size+1<wr.heap.size:=Zag tl.vb
    have lt0:w.heap.size<wr.heap.size:=by omega
    have own2:∀X,Below wr.heap.size wr X→X.ownsRow (w.heap.size+2) 46 4 (.slice ad vs.length cap) vs.length cs:=fun X hX=>Zay tl.own fun g hg=>hX.block g (tl.own.lt g hg).2
    by_cases hv0:vs.length=0
    ·obtain rfl:vs=[]:=List.eq_nil_of_length_eq_zero hv0
     have hPP:=hP.out
     rw[show ([]:List PV).isEmpty=true from rfl] at hPP
     clear hP hv0
     have v3:wr.cell? ⟨w.heap.size+1,3,none⟩=some (.slice ad 0 cap):=v3
     have own2:∀X,Below wr.heap.size wr X→X.ownsRow (w.heap.size+2) 46 4 (.slice ad 0 cap) 0 cs:=own2
     cases hO:Zhl (s.data.toList.drop (q)) with
     | none =>
      have HRN:Aside (R=none):=by
       show _=_
       rw[hPP,Zmm hc' (fun h=>by cases h) (by exact hO),Zke]
      have ct:∀W:World,Calls prog 69 #[.string s,.int .i64 ((q:Nat):Int)] W fun e w'=>Below W.heap.size W w'∧∃(k z p:Int) (s:ByteArray) (ad:Option Addr) (n c:Nat),e=.returned (.tuple #[.agg #[.int .u8 k,.int .i64 z,.string s,.slice ad n c],.int .i64 p,.bool false]):=fun W=>by
       have:=ih (q) W (by omega) (by omega)
       rw[hO] at this
       exact this
      clear hO hPP hc' ih
      go_wp2_with (go_at_call 69;go_must (refine (ct _).mono ?_;rintro e w2 ⟨hb2,kk,zz,pp,ss,xad,xn,xc,rfl⟩;have hszw:=hb2.size;have z0:=Below.cellv hb2 v0;have z1:=Below.cellv hb2 v1;have z2:=Below.cellv hb2 v2;have z3:=Below.cellv hb2 v3;have q0:=Below.cellv hb2 r0;have q1:=Below.cellv hb2 r1;have q2:=Below.cellv hb2 r2;have q3:=Below.cellv hb2 r3;have qf:∀j,w2.frozen? ⟨w.heap.size,j,none⟩=false:=fun j=>(hb2.frozen (p:=⟨w.heap.size,j,none⟩) lt0).trans (rf j);have ne1:w.heap.size+1≠w2.heap.size:=(by omega);have ne0:w.heap.size≠w2.heap.size:=(by omega);have ll1:w.heap.size+1<w2.heap.size:=(by omega);have ll0:w.heap.size<w2.heap.size:=(by omega)))
      exact bodyPost_ret (v:=.tuple #[.agg #[.int .u8 108,.int .i64 0,.string ⟨#[]⟩,.slice ad 0 cap],.int .i64 ((q:Nat):Int),.bool false]) (by simp[results,results69,go_sem,q0,q1,q2,q3,ll0]) rfl (Zqk HRN.out ((Zbi (tl.hb.trans (hb2.mono tl.hb.size)) (Nat.le_refl _) (Nat.le_refl _) _ _ _ _).alloc (by simp;omega) _))
     | some vr =>
      obtain⟨v,r⟩:=vr
      have hlen:=Zpt (show rdV _ _=some (v,r) from hO)
      rw[List.length_drop,Zca] at hlen
      have HM:Aside (R=Zr6 ([]++[v]) (Zky false r)):=by
       show _=_
       rw[hPP,Zjt hc' (fun h=>by cases h) (by exact hO),Zop]
      have ct:∀W:World,Calls prog 69 #[.string s,.int .i64 ((q:Nat):Int)] W fun e w'=>Below W.heap.size W w'∧∃(x:Value) (p:Nat),e=.returned (.tuple #[x,.int .i64 (p:Int),.bool true])∧p≤s.data.toList.length∧r=s.data.toList.drop p∧RV w' (W.heap.size≤·) v x:=fun W=>by
       have:=ih (q) W (by omega) (by omega)
       rw[hO] at this
       exact this
      clear hO hPP hc' ih
      go_wp2_with (first
       |(go_at_call 69;refine (ct _).mono ?_;rintro e w2 ⟨hb2,x,p,rfl,hp,hr,hrv⟩;obtain⟨kk,zz,ss,xad,xn,xc,rfl,hkk⟩:=hrv.parts;have hszw:=hb2.size;have z3:=Below.cellv hb2 v3;have ne1:w.heap.size+1≠w2.heap.size:=(by omega);have ll1:w.heap.size+1<w2.heap.size:=(by omega);rw[Zca] at hp;have HP:Aside (r=s.data.toList.drop p):=hr;clear hr)
       |(at_builtin;obtain⟨i0,hi,hz0,hz1,hz2⟩:=info_parts Tryz.infoVal;refine wpList_append_own_at _ rfl _ _ 44 rfl (w.heap.size+2) 46 i0 _ 4 56 underlying44 hi hz0 hz1 hz2 rfl (by decide) _ _ _ rfl (((own2 _ hb2).alloc _).alloc _) ⟨w2.heap.size+1,0,none⟩ 1 1 [.int .u8 (kk:Int),.int .i64 zz,.string ss,.slice xad xn xc] rfl rfl (Ziv _ _ _ _ _ _ _) (fun x hx=>by simp at hx;rcases hx with h | h | h | h<;>(subst h;rfl)) (by unfold maxLen;omega) (by omega) (by simp;omega) ?_;intro v' w6 hown' hgrow hnil hob;clear hi hz0 hz1 hz2;obtain⟨ad',cap',hv'⟩:=Zaf hown';subst hv';have tls:=tl.step hb2 hrv hown' hgrow hob;obtain⟨y0,y1,y2,y3,yf⟩:=Zak tls.2))
      have hlr:r.length=s.size-p:=by rw[HP.out,List.length_drop,Zca]
      go_roundg (s.size+1-p)
      case measure=>omega
      case rel=>exact⟨p,[]++[v],_,ad',cap',rfl,rfl,by omega,hp,by simp;omega,tls.1,by show _=_;rw[HM.out,HP.out];simp⟩
    ·have hE:vs.isEmpty=false:=by cases vs with
      | nil=>simp at hv0
      | cons x y=>rfl
     have hPP:=hP.out
     rw[hE] at hPP
     clear hP hE
     cases hb:Zad 32 (s.data.toList.drop q) with
     | false =>
      have HRN:Aside (R=none):=by
       show _=_
       rw[hPP,Znr hc' hb,Zke]
      rw[Zda hlt] at hb
      have hb1:(((s[q].toNat:Nat):Int)==32)=false:=hb
      have hb2:(((s[q].toNat:Nat):Int) != 32)=true:=by rw[bne,hb1];rfl
      clear hb hPP hc' ih
      go_wp2
      exact bodyPost_ret (v:=.tuple #[.agg #[.int .u8 108,.int .i64 0,.string ⟨#[]⟩,.slice ad vs.length cap],.int .i64 ((q:Nat):Int),.bool false]) (by simp[results,results69,go_sem,r0,r1,r2,r3]) rfl (Zqk HRN.out (tl.done _ _ _ _).1)
     | true =>
      have hbb:=hb
      rw[Zda hlt] at hb
      have hb1:(((s[q].toNat:Nat):Int)==32)=true:=hb
      have hb3:(((s[q].toNat:Nat):Int) != 32)=false:=by rw[bne,hb1];rfl
      clear hb
      cases hO:Zhl (s.data.toList.drop (q+1)) with
      | none =>
       have HRN:Aside (R=none):=by
        show _=_
        rw[hPP,Zmm hc' (fun _=>hbb) (by rw[if_neg (by decide),List.drop_drop];exact hO),Zke]
       have ct:∀W:World,Calls prog 69 #[.string s,.int .i64 ((q:Int)+1)] W fun e w'=>Below W.heap.size W w'∧∃(k z p:Int) (s:ByteArray) (ad:Option Addr) (n c:Nat),e=.returned (.tuple #[.agg #[.int .u8 k,.int .i64 z,.string s,.slice ad n c],.int .i64 p,.bool false]):=fun W=>by
        have:=ih (q+1) W (by omega) (by omega)
        rw[hO] at this
        exact this
       clear hO hPP hc' ih
       go_wp2_with (go_at_call 69;go_must (refine (ct _).mono ?_;rintro e w2 ⟨hb2,kk,zz,pp,ss,xad,xn,xc,rfl⟩;have hszw:=hb2.size;have z0:=Below.cellv hb2 v0;have z1:=Below.cellv hb2 v1;have z2:=Below.cellv hb2 v2;have z3:=Below.cellv hb2 v3;have q0:=Below.cellv hb2 r0;have q1:=Below.cellv hb2 r1;have q2:=Below.cellv hb2 r2;have q3:=Below.cellv hb2 r3;have qf:∀j,w2.frozen? ⟨w.heap.size,j,none⟩=false:=fun j=>(hb2.frozen (p:=⟨w.heap.size,j,none⟩) lt0).trans (rf j);have ne1:w.heap.size+1≠w2.heap.size:=(by omega);have ne0:w.heap.size≠w2.heap.size:=(by omega);have ll1:w.heap.size+1<w2.heap.size:=(by omega);have ll0:w.heap.size<w2.heap.size:=(by omega)))
       exact bodyPost_ret (v:=.tuple #[.agg #[.int .u8 108,.int .i64 0,.string ⟨#[]⟩,.slice ad vs.length cap],.int .i64 ((q:Int)+1),.bool false]) (by simp[results,results69,go_sem,q0,q1,q2,q3,ll0]) rfl (Zqk HRN.out ((Zbi (tl.hb.trans (hb2.mono tl.hb.size)) (Nat.le_refl _) (Nat.le_refl _) _ _ _ _).alloc (by simp;omega) _))
      | some vr =>
       obtain⟨v,r⟩:=vr
       have hlen:=Zpt (show rdV _ _=some (v,r) from hO)
       rw[List.length_drop,Zca] at hlen
       have HM:Aside (R=Zr6 (vs++[v]) (Zky false r)):=by
        show _=_
        rw[hPP,Zjt hc' (fun _=>hbb) (by rw[if_neg (by decide),List.drop_drop];exact hO),Zop]
       have ct:∀W:World,Calls prog 69 #[.string s,.int .i64 ((q:Int)+1)] W fun e w'=>Below W.heap.size W w'∧∃(x:Value) (p:Nat),e=.returned (.tuple #[x,.int .i64 (p:Int),.bool true])∧p≤s.data.toList.length∧r=s.data.toList.drop p∧RV w' (W.heap.size≤·) v x:=fun W=>by
        have:=ih (q+1) W (by omega) (by omega)
        rw[hO] at this
        exact this
       clear hO hPP hc' ih
       go_wp2_with (first
        |(go_at_call 69;refine (ct _).mono ?_;rintro e w2 ⟨hb2,x,p,rfl,hp,hr,hrv⟩;obtain⟨kk,zz,ss,xad,xn,xc,rfl,hkk⟩:=hrv.parts;have hszw:=hb2.size;have z3:=Below.cellv hb2 v3;have ne1:w.heap.size+1≠w2.heap.size:=(by omega);have ll1:w.heap.size+1<w2.heap.size:=(by omega);rw[Zca] at hp;have HP:Aside (r=s.data.toList.drop p):=hr;clear hr)
        |(at_builtin;obtain⟨i0,hi,hz0,hz1,hz2⟩:=info_parts Tryz.infoVal;refine wpList_append_own_at _ rfl _ _ 44 rfl (w.heap.size+2) 46 i0 _ 4 56 underlying44 hi hz0 hz1 hz2 rfl (by decide) _ _ _ rfl (((own2 _ hb2).alloc _).alloc _) ⟨w2.heap.size+1,0,none⟩ 1 1 [.int .u8 (kk:Int),.int .i64 zz,.string ss,.slice xad xn xc] rfl rfl (Ziv _ _ _ _ _ _ _) (fun x hx=>by simp at hx;rcases hx with h | h | h | h<;>(subst h;rfl)) (by unfold maxLen;omega) (by omega) (by simp;omega) ?_;intro v' w6 hown' hgrow hnil hob;clear hi hz0 hz1 hz2;obtain⟨ad',cap',hv'⟩:=Zaf hown';subst hv';have tls:=tl.step hb2 hrv hown' hgrow hob;obtain⟨y0,y1,y2,y3,yf⟩:=Zak tls.2))
       have hlr:r.length=s.size-p:=by rw[HP.out,List.length_drop,Zca]
       go_roundg (s.size+1-p)
       case measure=>omega
       case rel=>exact⟨p,vs++[v],_,ad',cap',rfl,rfl,by omega,hp,by simp;omega,tls.1,by show _=_;rw[HM.out,HP.out,show (vs++[v]).isEmpty=false by cases vs<;>rfl]⟩
  ·have HRN:Aside (R=none):=by
    show _=_
    rw[hP.out,List.drop_eq_nil_of_le (by rw[Zca];omega),rdLx_nil,Zke]
   clear hP
   go_wp2
   exact bodyPost_ret (v:=.tuple #[.agg #[.int .u8 108,.int .i64 0,.string ⟨#[]⟩,.slice ad vs.length cap],.int .i64 ((q:Int)+1),.bool false]) (by simp[results,results69,go_sem,r0,r1,r2,r3]) rfl (Zqk HRN.out (tl.done _ _ _ _).1)
theorem Zso (s:ByteArray)(hs:s.size≤20000):∀m,Z30 s m
 | m,a,w,ha,hm=>by
  cases h4:Zad 40 (s.data.toList.drop a) with
  | true =>
   have hlt:a<s.size:=by
    rcases Nat.lt_or_ge a s.size with h | h
    ·exact h
    ·rw[Zhy h] at h4;cases h4
   match m,hm with
   | 0,hm=>omega
   | m+1,hm=>exact Zxs s a w hs hlt h4 m hm (Zso s hs m)
  | false =>
   cases h3:Zad 39 (s.data.toList.drop a) with
   | true =>
    have hlt:a<s.size:=by
     rcases Nat.lt_or_ge a s.size with h | h
     ·exact h
     ·rw[Zhy h] at h3;cases h3
    exact Zxr s a w hs hlt h3 h4
   | false=>exact Z0b s a w hs ha h3 h4
theorem Zmk {w w2:World}(hb:Below (w.alloc Zaz).heap.size (w.alloc Zaz) w2):w2.cell? ⟨w.heap.size,0,none⟩=some (.int .u8 0)∧w2.cell? ⟨w.heap.size,1,none⟩=some (.int .i64 0)∧w2.cell? ⟨w.heap.size,2,none⟩=some (.string ⟨#[]⟩)∧w2.cell? ⟨w.heap.size,3,none⟩=some (.slice none 0 0)∧(∀j,w2.frozen? ⟨w.heap.size,j,none⟩=false)∧w.heap.size≠w2.heap.size∧w.heap.size<w2.heap.size:=by
 have h0:(w.alloc Zaz).heap[w.heap.size]?=some Zaz:=heap_alloc_new _ _
 have h:w2.heap[w.heap.size]?=some Zaz:=by rw[hb.block _ (by simp)];exact h0
 obtain⟨a,b,c,d,e⟩:=Zak h
 have:=Zag h
 exact⟨a,b,c,d,e,by omega,this⟩
theorem Zej (w:World)(b:Nat)(x0 x1 x2 x3:Value)(g:Nat)(hne:g≠b):((((w.setCell ⟨b,0,none⟩ x0).setCell ⟨b,1,none⟩ x1).setCell ⟨b,2,none⟩ x2).setCell ⟨b,3,none⟩ x3).heap[g]?=w.heap[g]?:=by
 rw[Below.heap_setCell _ ⟨b,3,none⟩ _ g hne,Below.heap_setCell _ ⟨b,2,none⟩ _ g hne,Below.heap_setCell _ ⟨b,1,none⟩ _ g hne,Below.heap_setCell _ ⟨b,0,none⟩ _ g hne]
theorem RV.res {w:World}{D:Nat→Prop}{v:PV}{x:Value}(h:RV w D v x){b:Nat}(hD:∀k,D k→k≠b)(x0 x1 x2 x3:Value):RV ((((w.setCell ⟨b,0,none⟩ x0).setCell ⟨b,1,none⟩ x1).setCell ⟨b,2,none⟩ x2).setCell ⟨b,3,none⟩ x3) D v x :=
 h.map fun _ _ _ g=>(g.keep fun k hk _=>Zej w b x0 x1 x2 x3 k (hD k hk)).weaken fun _ hk=>hk.1
def tknPost (o:Option PV)(w:World)(e:Ending)(w':World):Prop :=
 Below w.heap.size w w'∧match o with
 | none=>∃(k z:Int) (s:ByteArray) (ad:Option Addr) (n c:Nat),e=.returned (.tuple #[.agg #[.int .u8 k,.int .i64 z,.string s,.slice ad n c],.bool false])
 | some v=>∃x:Value,e=.returned (.tuple #[x,.bool true])∧RV w' (w.heap.size≤·) v x
theorem Z3z (s:ByteArray)(w:World)(hs:s.size≤maxLen):Calls prog 35 #[.string s] w (tknPost (Zfv s.data.toList) w):=by
 unfold maxLen at hs
 by_cases hl:20000<s.size
 ·rw[Zx5 (by rw[Zca];exact hl)]
  go_enter func35,ntmps35
  go_wp2
  exact bodyPost_ret (v:=.tuple #[.agg #[.int .u8 0,.int .i64 0,.string ⟨#[]⟩,.slice none 0 0],.bool false]) (by simp[results,results35,go_sem]) rfl ⟨Zab w _,_,_,_,_,_,_,rfl⟩
 ·have ct:=fun W=>Zso s (by omega) s.size 0 W (by omega) (by omega)
  rw[List.drop_zero] at ct
  rw[Zqz]
  cases hO:Zhl s.data.toList with
  | none =>
   rw[hO] at ct
   have ct2:∀W:World,Calls prog 69 #[.string s,.int .i64 0] W fun e w'=>Below W.heap.size W w'∧∃(k z p:Int) (s:ByteArray) (ad:Option Addr) (n c:Nat),e=.returned (.tuple #[.agg #[.int .u8 k,.int .i64 z,.string s,.slice ad n c],.int .i64 p,.bool false]):=ct
   clear ct hO
   go_enter func35,ntmps35
   go_wp2_with (go_at_call 69;refine (ct2 _).mono ?_;rintro e w2 ⟨hb2,kk,zz,pp,ss,xad,xn,xc,rfl⟩;obtain⟨q0,q1,q2,q3,qf,ne0,ll0⟩:=Zmk hb2)
   exact bodyPost_ret (v:=.tuple #[.agg #[.int .u8 0,.int .i64 0,.string ⟨#[]⟩,.slice none 0 0],.bool false]) (by simp[results,results35,go_sem,q0,q1,q2,q3,ll0]) rfl ⟨(Zbi ((Zab w _).trans (hb2.mono (by simp))) (Nat.le_refl _) (Nat.le_refl _) _ _ _ _).alloc (by simp;omega) _,_,_,_,_,_,_,rfl⟩
  | some vr =>
   obtain⟨v,r⟩:=vr
   rw[hO] at ct
   obtain⟨hwt,hok⟩:=rdVx_wt hO
   rw[Zca] at hwt
   have ct2:∀W:World,Calls prog 69 #[.string s,.int .i64 0] W fun e w'=>Below W.heap.size W w'∧∃(x:Value) (p:Nat),e=.returned (.tuple #[x,.int .i64 (p:Int),.bool true])∧p≤s.data.toList.length∧r=s.data.toList.drop p∧RV w' (W.heap.size≤·) v x:=ct
   clear ct hO
   by_cases hr:r=[]
   ·subst hr
    by_cases hwl:wtV v≤600
    ·simp only
     rw[if_pos ⟨trivial,hwl⟩]
     have hw2:((wtV v:Nat):Int)≤600:=by omega
     go_enter func35,ntmps35
     go_wp2_with (first
      |(go_at_call 69;refine (ct2 _).mono ?_;rintro e w2 ⟨hb2,x,p,rfl,hp,hr,hrv⟩;obtain⟨kk,zz,ss,xad,xn,xc,rfl,hkk⟩:=hrv.parts;obtain rfl:p=s.size:=(by have:=congrArg List.length hr;rw[List.length_drop,Zca] at this;rw[Zca] at hp;simp at this;omega);clear hr hp;have hw3:=fun X hX=>Zhx _ 20000 v _ X (by omega) (by omega) (hrv.below hX);have hszw:=hb2.size;have ll0:w.heap.size<w2.heap.size:=(by simp at hszw;omega);have ne0:w.heap.size≠w2.heap.size:=(by omega))
      |(go_at_call 70;refine (hw3 _ (Zab w2 _)).mono ?_;rintro e w4 ⟨rfl,hb4⟩;obtain⟨z0,z1,z2,z3⟩:=Zkd (w:=w2) (hb4.mono (by simp));have hb24:=(hb2.alloc hszw _).trans (hb4.mono (by simp;omega));obtain⟨q0,q1,q2,q3,qf,ne4,ll4⟩:=Zmk hb24))
     refine bodyPost_ret (v:=.tuple #[.agg #[.int .u8 (kk:Int),.int .i64 zz,.string ss,.slice xad xn xc],.bool true]) (by simp[results,results35,go_sem,q0,q1,q2,q3]) rfl ⟨Zbi ((Zab w _).trans (hb24.mono (by simp))) (Nat.le_refl _) (Nat.le_refl _) _ _ _ _,_,rfl,?_⟩
     refine RV.weaken (fun k hk=>?_) (((hrv.below (Zab w2 _)).below hb4).res (fun k hk=>?_) _ _ _ _)
     ·have:(w.alloc Zaz).heap.size≤k:=hk
      simp at this
      omega
     ·have:(w.alloc Zaz).heap.size≤k:=hk
      simp at this
      omega
    ·simp only
     rw[if_neg (fun h=>hwl h.2)]
     have hw2:decide (((wtV v:Nat):Int)≤600)=false:=by simp;omega
     go_enter func35,ntmps35
     go_wp2_with (first
      |(go_at_call 69;refine (ct2 _).mono ?_;rintro e w2 ⟨hb2,x,p,rfl,hp,hr,hrv⟩;obtain⟨kk,zz,ss,xad,xn,xc,rfl,hkk⟩:=hrv.parts;obtain rfl:p=s.size:=(by have:=congrArg List.length hr;rw[List.length_drop,Zca] at this;rw[Zca] at hp;simp at this;omega);clear hr hp;have hw3:=fun X hX=>Zhx _ 20000 v _ X (by omega) (by omega) (hrv.below hX);have hszw:=hb2.size;have ll0:w.heap.size<w2.heap.size:=(by simp at hszw;omega);have ne0:w.heap.size≠w2.heap.size:=(by omega))
      |(go_at_call 70;refine (hw3 _ (Zab w2 _)).mono ?_;rintro e w4 ⟨rfl,hb4⟩;obtain⟨z0,z1,z2,z3⟩:=Zkd (w:=w2) (hb4.mono (by simp));have hb24:=(hb2.alloc hszw _).trans (hb4.mono (by simp;omega));obtain⟨q0,q1,q2,q3,qf,ne4,ll4⟩:=Zmk hb24))
     exact bodyPost_ret (v:=.tuple #[.agg #[.int .u8 (kk:Int),.int .i64 zz,.string ss,.slice xad xn xc],.bool false]) (by simp[results,results35,go_sem,q0,q1,q2,q3]) rfl ⟨Zbi ((Zab w _).trans (hb24.mono (by simp))) (Nat.le_refl _) (Nat.le_refl _) _ _ _ _,_,_,_,_,_,_,rfl⟩
   ·simp only
    rw[if_neg (fun h=>hr h.1)]
    go_enter func35,ntmps35
    go_wp2_with (go_at_call 69;refine (ct2 _).mono ?_;rintro e w2 ⟨hb2,x,p,rfl,hp,hrr,hrv⟩;obtain⟨kk,zz,ss,xad,xn,xc,rfl,hkk⟩:=hrv.parts;have hpn:(((p:Nat):Int) != ((s.size:Nat):Int))=true:=(by rw[bne_iff_ne];intro e;apply hr;rw[hrr];apply List.drop_eq_nil_of_le;rw[Zca];omega);clear hrr hp;obtain⟨q0,q1,q2,q3,qf,ne0,ll0⟩:=Zmk hb2)
    exact bodyPost_ret (v:=.tuple #[.agg #[.int .u8 0,.int .i64 0,.string ⟨#[]⟩,.slice none 0 0],.bool false]) (by simp[results,results35,go_sem,q0,q1,q2,q3,ll0]) rfl ⟨(Zbi ((Zab w _).trans (hb2.mono (by simp))) (Nat.le_refl _) (Nat.le_refl _) _ _ _ _).alloc (by simp;omega) _,_,_,_,_,_,_,rfl⟩
theorem box_res {w w2:World}{a b c d:Value}(hb:Below (w.heap.size+2) ((w.alloc (Zce a b c d)).alloc Zaz) w2):(w2.cell? ⟨w.heap.size,0,none⟩=some a∧w2.cell? ⟨w.heap.size,1,none⟩=some b∧w2.cell? ⟨w.heap.size,2,none⟩=some c∧w2.cell? ⟨w.heap.size,3,none⟩=some d)∧(w2.cell? ⟨w.heap.size+1,0,none⟩=some (.int .u8 0)∧w2.cell? ⟨w.heap.size+1,1,none⟩=some (.int .i64 0)∧w2.cell? ⟨w.heap.size+1,2,none⟩=some (.string ⟨#[]⟩)∧w2.cell? ⟨w.heap.size+1,3,none⟩=some (.slice none 0 0))∧(∀j,w2.frozen? ⟨w.heap.size+1,j,none⟩=false)∧w.heap.size+1<w2.heap.size:=by
 have h0:w2.heap[w.heap.size]?=some (Zce a b c d):=by
  rw[hb.block _ (by omega),Za0 _ _ _ (by simp)];exact heap_alloc_new _ _
 have h1:w2.heap[w.heap.size+1]?=some Zaz:=by
  rw[hb.block _ (by omega)]
  have:=heap_alloc_new (w.alloc (Zce a b c d)) Zaz
  simpa using this
 obtain⟨a0,a1,a2,a3,_⟩:=Zak h0
 obtain⟨b0,b1,b2,b3,bf⟩:=Zak h1
 exact⟨⟨a0,a1,a2,a3⟩,⟨b0,b1,b2,b3⟩,bf,Zag h1⟩
theorem Zj3 (D:Nat→Prop)(v:PV)(x:Value)(w:World)(hm:wtV v≤1000000000)(hv:RV w D v x):
  Calls prog 205 #[x] w fun e w'=>e=.returned (.tuple #[x,.bool (decide (wtV v≤600))])∧Below w.heap.size w w':=by
 obtain⟨kk,zz,ss,xad,xn,xc,rfl,hkk⟩:=hv.parts
 have hw3:=Zhx D 1000000000 v _ _ hm (Nat.le_refl _) (hv.below (below2 w (Zce (.int .u8 (kk:Int)) (.int .i64 zz) (.string ss) (.slice xad xn xc)) Zaz))
 have hdec:(decide (((wtV v:Nat):Int)≤600))=decide (wtV v≤600):=by
  rw[Bool.eq_iff_iff];simp;omega
 generalize hW:wtV v=W at *
 clear hW hv
 go_enter func205,ntmps205
 go_wp2_with (go_at_call 70;refine hw3.mono ?_;rintro e w2 ⟨rfl,hb2⟩;obtain⟨⟨z0,z1,z2,z3⟩,⟨q0,q1,q2,q3⟩,qf,ll⟩:=box_res (w:=w) (hb2.mono (by simp)))
 exact bodyPost_ret (v:=.tuple #[.agg #[.int .u8 (kk:Int),.int .i64 zz,.string ss,.slice xad xn xc],.bool (decide (W≤600))]) (by simp[results,results205,go_sem,q0,q1,q2,q3]) rfl ⟨rfl,Zbi ((below2 w _ _).trans (hb2.mono (by simp;omega))) (Nat.le_refl _) (by omega) _ _ _ _⟩
theorem Zr3 (b:Bool)(w:World):Calls prog 246 #[.bool b] w fun e w'=>e=.returned (.agg #[.int .u8 110,.int .i64 (if b then 1 else 0),.string ⟨#[]⟩,.slice none 0 0])∧Below w.heap.size w w':=by
 cases b with
 | true =>
  go_enter func246,ntmps246
  go_wp2
  exact bodyPost_ret (v:=.agg #[.int .u8 110,.int .i64 1,.string ⟨#[]⟩,.slice none 0 0]) (by simp[results,results246,go_sem]) rfl ⟨rfl,Zab w _⟩
 | false =>
  go_enter func246,ntmps246
  go_wp2
  exact bodyPost_ret (v:=.agg #[.int .u8 110,.int .i64 0,.string ⟨#[]⟩,.slice none 0 0]) (by simp[results,results246,go_sem]) rfl ⟨rfl,Zab w _⟩
end Go.Proofs.YtliapghpeoaonaaGreatDoor
