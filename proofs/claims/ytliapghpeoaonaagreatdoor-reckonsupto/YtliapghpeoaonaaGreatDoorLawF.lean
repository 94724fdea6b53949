/-
  The law's checks: Check and the reference answer the same, at every text.
-/
import Derived.Test.YtliapghpeoaonaaGreatDoorLawD
import Derived.Test.YtliapghpeoaonaaGreatDoorRefP0
import Derived.Test.YtliapghpeoaonaaGreatDoorTouch
import Derived.Test.YtliapghpeoaonaaGreatDoorRwD
import Derived.Test.YtliapghpeoaonaaGreatDoorReO
import Derived.Laws.CopyOwn
import Derived.Deep.OwnRows
import Derived.Laws.OwnMore
import Derived.WalkSpells
set_option maxHeartbeats 4000000
set_option maxRecDepth 8000
namespace Go.Proofs.YtliapghpeoaonaaGreatDoor
open Go.Proofs.Tryz
open Go.RowKit
attribute [local go_sem ↓] Go.wp_at_zero Go.wp_at_succ
theorem code_any (n:Nat)(ts:List Tok)(E:Nat→Addr)(w:World)(S:Zed w E):
  Calls prog 37 #[ansV (Zbx n ts) E] w fun e w'=>e=.returned (.tuple #[.int .i64 (((ansP (Zbx n ts)).1:Nat):Int),.int .i64 (((ansP (Zbx n ts)).2:Nat):Int)])∧Below w.heap.size w w':=by
 cases h:Zbx n ts with
 | none=>exact Zw4 w
 | some x =>
  obtain⟨c,p⟩:=x
  obtain⟨h1,h2⟩:=Zoo h
  simp only[ansV,ansP]
  match c,h1,h2 with
  | 1,_,_=>exact code_1 p E w S
  | 2,_,_=>exact code_2 p E w S
  | 3,_,_=>exact code_3 p E w S
  | 4,_,_=>exact code_4 p E w S
  | 5,_,_=>exact code_5 p E w S
  | 6,_,_=>exact code_6 p E w S
  | 7,_,_=>exact code_7 p E w S
theorem Z18 (v:Value)(c p:Nat)(w:World)(hc:Calls prog 37 #[v] w fun e w'=>e=.returned (.tuple #[.int .i64 ((c:Nat):Int),.int .i64 ((p:Nat):Int)])∧Below w.heap.size w w'):
  Calls prog 15 #[v,.int .i64 ((c:Nat):Int),.int .i64 ((p:Nat):Int)] w fun e w'=>e=.returned (.bool true)∧Below w.heap.size w w':=by
 go_enter func15,ntmps15
 go_wp2_with (go_at_call 37;refine hc.mono ?_;rintro e w2 ⟨rfl,hb⟩)
 go_ret
 exact⟨rfl,hb⟩
theorem Zzg (s:ByteArray)(w:World)(E:Nat→Addr)(S:Zed w E)(h15:15≤w.heap.size)(hs:s.size≤maxLen):
  Calls prog 7 #[.string s] w fun e w'=>e=.returned (.bool true)∧Below w.heap.size w w':=by
 obtain⟨ts,hts⟩:=Zg0 s.data.toList _ 0 (Nat.zero_le _) (Nat.le_refl _)
 have c1:=Zzh s w E S.er h15 hs (fun _=>hts)
 have c2:=fun X=>Z0m s X hs (fun _=>hts)
 have c3:=fun X (hX:Below w.heap.size w X)=>Z18 _ _ _ X (code_any s.size ts E X (S.below hX))
 unfold Zwm at c2
 generalize ansV (Zbx s.size ts) E=V at *
 generalize (ansP (Zbx s.size ts)).1=ac at *
 generalize (ansP (Zbx s.size ts)).2=ap at *
 clear hts
 go_enter func7,ntmps7
 go_wp2_with (first
  |(go_at_call 24;refine c1.mono ?_;rintro e w1 ⟨rfl,hb1⟩)
  |(go_at_call 25;refine (c2 _).mono ?_;rintro e w2 ⟨⟨v,rfl⟩,hb2⟩;have hb12:=hb1.trans (hb2.mono hb1.size))
  |(go_at_call 15;refine (c3 _ hb12).mono ?_;rintro e w3 ⟨rfl,hb3⟩))
 go_ret
 exact⟨rfl,hb12.trans (hb3.mono hb12.size)⟩
end Go.Proofs.YtliapghpeoaonaaGreatDoor
namespace Go.Proofs.YtliapghpeoaonaaGreatDoor
open Go.Proofs.Tryz
open Go.RowKit Go.Lib
attribute [local go_sem ↓] Go.wp_at_zero Go.wp_at_succ
theorem Tryz.infoLStr:(prog.info? 9).map (fun i=>(i.zero,i.size,i.bytes))=some (some (.string ⟨#[]⟩),1,16):=by kernel_rfl
theorem Tryz.sizeLStr:(prog.info? 9).map (·.size)=some 1:=by kernel_rfl
def Zsu (bs:List ByteArray):List Value:=bs.map Value.string
def Zcc (bs:List ByteArray)(a b:ByteArray):List Value:=Zsu bs++[.string a,.string b]
theorem Zh0 (bs:List ByteArray):(Zsu bs).length=bs.length:=by simp[Zsu]
theorem Zpr (bs:List ByteArray)(a b:ByteArray):(Zcc bs a b).length=bs.length+2:=by simp[Zcc,Zsu]
theorem Zsv (bs:List ByteArray)(a b:ByteArray)(i:Nat)(hi:i<bs.length):(Zcc bs a b)[i]?=some (.string bs[i]):=by
 unfold Zcc Zsu
 rw[List.getElem?_append_left (by simpa using hi)]
 simp[hi]
theorem Zmi (bs:List ByteArray)(a b:ByteArray):(Zcc bs a b)[bs.length]?=some (.string a):=by
 unfold Zcc
 rw[List.getElem?_append_right (by simp[Zsu])]
 simp[Zsu]
theorem Zjs (bs:List ByteArray)(a b:ByteArray):(Zcc bs a b)[bs.length+1]?=some (.string b):=by
 unfold Zcc
 rw[List.getElem?_append_right (by simp[Zsu])]
 simp[Zsu]
theorem Znk (bs:List ByteArray):splice (List.replicate (bs.length+2) (Value.string ⟨#[]⟩)) 0 (Zsu bs)=Zcc bs ⟨#[]⟩ ⟨#[]⟩:=by
 unfold splice Zcc
 simp[Zh0]
theorem Zpq (bs:List ByteArray)(a b c:ByteArray):(Zcc bs a b).toArray.setIfInBounds bs.length (.string c)=(Zcc bs c b).toArray:=by
 unfold Zcc
 simp[Zsu]
theorem Znp (bs:List ByteArray)(a b c:ByteArray):(Zcc bs a b).toArray.setIfInBounds (bs.length+1) (.string c)=(Zcc bs a c).toArray:=by
 unfold Zcc
 simp[Zsu]
theorem Zel {w:World}{g j:Nat}{l:List Value}{t:TypeId}{v:Value}(h:w.heap[g]?=some (.cells l.toArray t))(hj:l[j]?=some v):w.cell? ⟨g,j,none⟩=some v:=by
 unfold World.cell?
 rw[h]
 simpa using hj
theorem Zfe {w:World}{g:Nat}{c:Array Value}{t:TypeId}(h:w.heap[g]?=some (.cells c t))(j:Nat):w.frozen? ⟨g,j,none⟩=false:=by
 unfold World.frozen?
 rw[h]
 rfl
theorem Zeb.of_blk {w:World}{g:Nat}{bs:List ByteArray}{a b:ByteArray}(h:w.heap[g]?=some (.cells (Zcc bs a b).toArray 9))(hl:bs.length≤2000000)(hz:∀b∈bs,b.size≤maxLen):Zeb w (.slice (some ⟨g,0,none⟩) bs.length (bs.length+2)) bs :=
 ⟨_,_,rfl,by omega,by unfold maxLen;omega,hz,fun i hi=>⟨g,0,rfl,by rw[Nat.zero_add];exact Zel h (Zsv bs a b i hi)⟩⟩
theorem Zt4 {w w1:World}{ad:Option Addr}{cap:Nat}{bs:List ByteArray}(B1:Below w.heap.size w w1)(hb1:w1.heap[w.heap.size]?=some (.cells (List.replicate (bs.length+2) (Value.string ⟨#[]⟩)).toArray 9))
  (hcell:∀i (hi:i<bs.length),∃g o,ad=some ⟨g,o,none⟩∧w.cell? ⟨g,o+i,none⟩=some (.string bs[i])) :
  ∃w2,(∀ty,(Builtin.copy_ #[30,30] ty #[.slice (some ⟨w.heap.size,0,none⟩) (bs.length+2) (bs.length+2),.slice ad bs.length cap]).run prog w1=.ok (goInt bs.length) w2)∧w2.heap[w.heap.size]?=some (.cells (Zcc bs ⟨#[]⟩ ⟨#[]⟩).toArray 9)∧Below w.heap.size w w2:=by
 by_cases h0:bs.length=0
 ·refine⟨w1,fun ty=>?_,?_,B1⟩
  ·rw[h0]
   exact run_copy_none w1 30 30 ty 9 _ _ _ _ _ _ underlying30 Tryz.sizeLStr (by simp)
  ·rw[hb1,←Znk,List.eq_nil_of_length_eq_zero h0]
   rfl
 ·obtain⟨g,o,rfl,_⟩:=hcell 0 (by omega)
  refine⟨w1.setRow w.heap.size (splice (List.replicate (bs.length+2) (Value.string ⟨#[]⟩)) 0 (Zsu bs)).toArray,fun ty=>?_,?_,below_setRow B1 (Nat.le_refl _) _⟩
  ·have h:=run_copy_row (P:=prog) w1 30 30 ty 9 w.heap.size 0 (bs.length+2) (bs.length+2) ⟨g,o,none⟩ bs.length cap (List.replicate (bs.length+2) (Value.string ⟨#[]⟩)).toArray 9 (Zsu bs) underlying30 Tryz.sizeLStr hb1 (by rw[Zh0];show bs.length=min _ _;omega) (fun j v hj=>by
    have hjl:j<bs.length:=by
     have:=(List.getElem?_eq_some_iff.1 hj).1
     rw[Zh0] at this
     exact this
    obtain⟨g',o',e,hc⟩:=hcell j hjl
    cases e
    have hv:v=.string bs[j]:=by
     unfold Zsu at hj
     simp[hjl] at hj
     exact hj.symm
    rw[hv]
    rw[show (⟨g,o,none⟩:Addr).add j=⟨g,o+j,none⟩ by simp[Addr.add]]
    exact Below.cellv B1 hc) (by rw[Zh0];simp) (fun v hv=>by
    unfold Zsu at hv
    obtain⟨b,_,rfl⟩:=List.mem_map.1 hv
    rfl)
   rw[h,Zh0]
   unfold splice
   rw[List.append_assoc,Zh0]
  ·have:=setRow_heap w1 w.heap.size _ (splice (List.replicate (bs.length+2) (Value.string ⟨#[]⟩)) 0 (Zsu bs)).toArray _ _ hb1
   rw[Znk] at this ⊢
   exact this
theorem Z25 {E:Nat→Addr}{c p:Nat}{f:Value}(h:Zzs E c p f)(w:World)(S:Zed w E):Calls prog 37 #[f] w fun e w'=>e=.returned (.tuple #[.int .i64 ((c:Nat):Int),.int .i64 ((p:Nat):Int)])∧Below w.heap.size w w':=by
 rcases h with ⟨rfl,rfl,rfl⟩ | ⟨rfl,rfl,hf⟩ | ⟨h1,h2,rfl⟩
 ·exact Zw4 w
 ·exact code_flt hf (E 8) w S.e8
 ·match c,h1,h2 with
  | 1,_,_=>exact code_1 p E w S
  | 2,_,_=>exact code_2 p E w S
  | 3,_,_=>exact code_3 p E w S
  | 4,_,_=>exact code_4 p E w S
  | 5,_,_=>exact code_5 p E w S
  | 6,_,_=>exact code_6 p E w S
  | 7,_,_=>exact code_7 p E w S
theorem Zzs.shape {E:Nat→Addr}{c p:Nat}{f:Value}(h:Zzs E c p f):f=.nilIface∨∃t y,f=.iface t y:=by
 rcases h with ⟨rfl,rfl,rfl⟩ | ⟨rfl,rfl,hf⟩ | ⟨h1,h2,rfl⟩
 ·exact Or.inl rfl
 ·exact Or.inr hf.iface
 ·exact Or.inr ⟨_,_,rfl⟩
theorem Zno (s nb:ByteArray)(sv:Value)(bs:List ByteArray)(w:World){ts:List Tok}(hs:s.size≤maxLen)(hts:Za4 s.data.toList 0 ts)(hbl:bs.length≤2000000)(ha:Zeb w sv bs):
  Calls prog 27 #[.string s,.string nb,sv] w (Zjr (Zgd s.size ts nb.data.toList (bs.map (·.data.toList))) w):=by
 by_cases h:s.size≤2000
 ·exact Zqt s nb sv bs w h hts hbl ha fun fns rest h1 h2=>Zs1 hts (by rw[Zax];omega) h1 h2
 ·exact Zst s nb sv w ts _ hs (by omega)
theorem lr_some (s nb:ByteArray)(a0:Addr)(bs:List ByteArray)(cap:Nat)(w:World)(E:Nat→Addr)(S:Zed w E)(hN:Zl4 w)(h15:15≤w.heap.size)(hs:s.size≤maxLen)(ha:Zeb w (.slice (some a0) bs.length cap) bs)(hbl:bs.length≤2000000)(hbz:∀b∈bs,b.size≤1000000000000):
  Calls prog 8 #[.string s,.string nb,.slice (some a0) bs.length cap] w fun e w'=>e=.returned (.bool true)∧Below w.heap.size w w':=by
 obtain⟨ts,hts⟩:=Zg0 s.data.toList _ 0 (Nat.zero_le _) (Nat.le_refl _)
 have ha':=ha
 obtain⟨ad0,cap0,he0,hc1,hc2,hbs,hcell⟩:=ha'
 cases he0
 have hmk:(Instr.makeSlice 30 (.int .i64 ((bs.length:Int)+2)) (.int .i64 ((bs.length:Int)+2))).run prog w=.ok (.slice (some ⟨w.heap.size,0,none⟩) (bs.length+2) (bs.length+2)) (w.alloc (.cells (List.replicate (bs.length+2) (Value.string ⟨#[]⟩)).toArray 9)):=by
  have h:=run_make_row' (P:=prog) 30 9 (.string ⟨#[]⟩) 16 underlying30 Tryz.infoLStr rfl .i64 .i64 (bs.length+2) (by omega) (by omega) w
  rw[show (((bs.length+2:Nat)):Int)=(bs.length:Int)+2 by omega] at h
  rw[h,←toList_madeCells_one]
 have hbi:((bs.length:Nat):Int)≤2000000:=by omega
 have B1:=Zab w (.cells (List.replicate (bs.length+2) (Value.string ⟨#[]⟩)).toArray 9)
 have hb1:(w.alloc (.cells (List.replicate (bs.length+2) (Value.string ⟨#[]⟩)).toArray 9)).heap[w.heap.size]?=some (.cells (List.replicate (bs.length+2) (Value.string ⟨#[]⟩)).toArray 9):=heap_alloc_new _ _
 generalize w.alloc (.cells (List.replicate (bs.length+2) (Value.string ⟨#[]⟩)).toArray 9)=w1 at *
 unfold maxLen at hc2
 obtain⟨w2,hcp,hb2,B2⟩:=Zt4 (cap:=cap) B1 hb1 hcell
 have c2:=Zel hb2 (Zmi bs _ _)
 have f2:=Zfe hb2 bs.length
 have hb3:(w2.setCell ⟨w.heap.size,bs.length,none⟩ (.string ⟨#[55,55]⟩)).heap[w.heap.size]?=some (.cells (Zcc bs ⟨#[55,55]⟩ ⟨#[]⟩).toArray 9):=by rw[Zau hb2,Zpq]
 have c3:=Zel hb3 (Zjs bs _ _)
 have f3:=Zfe hb3 (bs.length+1)
 have hb4:((w2.setCell ⟨w.heap.size,bs.length,none⟩ (.string ⟨#[55,55]⟩)).setCell ⟨w.heap.size,bs.length+1,none⟩ (.string ⟨#[55,56]⟩)).heap[w.heap.size]?=some (.cells (Zcc bs ⟨#[55,55]⟩ ⟨#[55,56]⟩).toArray 9):=by rw[Zau hb3,Znp]
 have B4:Below w.heap.size w ((w2.setCell ⟨w.heap.size,bs.length,none⟩ (.string ⟨#[55,55]⟩)).setCell ⟨w.heap.size,bs.length+1,none⟩ (.string ⟨#[55,56]⟩)):=(B2.setCell (p:=⟨w.heap.size,bs.length,none⟩) (Nat.le_refl _) _).setCell (p:=⟨w.heap.size,bs.length+1,none⟩) (Nat.le_refl _) _
 have hnil:∀X,(binOp .eql 30 (.slice (some a0) bs.length cap) (.slice none 0 0)).run prog X=.ok (.bool false) X:=fun X=>run_eql_nil_slice X 30 9 (some a0) bs.length cap 0 0 underlying30
 have CS:Hid (∀X,Below w.heap.size w X→X.heap[w.heap.size]?=some (.cells (Zcc bs ⟨#[55,55]⟩ ⟨#[55,56]⟩).toArray 9)→Calls prog 26 #[.string s,.string nb,(.slice (some ⟨w.heap.size,0,none⟩) bs.length (bs.length+2))] X (Zpv E (Zgd s.size ts nb.data.toList (bs.map (·.data.toList))) X)):=fun X hX hbX=>by
  have SX:=S.below hX
  refine Zlk s nb _ bs X E SX.er ⟨SX.et,_,SX.e8⟩ (hN.below hX) (Nat.le_trans h15 hX.size) hs (fun _=>hts) ?_ hbl hbz
  exact Zeb.of_blk hbX hbl hbs
 have CR:Hid (∀X,Below w.heap.size w X→Calls prog 27 #[.string s,.string nb,.slice (some a0) bs.length cap] X (Zjr (Zgd s.size ts nb.data.toList (bs.map (·.data.toList))) X)):=fun X hX=>Zno s nb _ bs X hs hts hbl (ha.below hX)
 clear hb1 B1 hb2 hb3 B2 hbz hts ha
 generalize Zgd s.size ts nb.data.toList (bs.map (·.data.toList))=RR at *
 obtain⟨T,ec,ep⟩:=RR
 go_enter func8,ntmps8
 go_wp2_with fail
 refine (CS.out _ B4 hb4).mono ?_
 rintro e w5 ⟨hb5,f,rfl,hf⟩
 have B5:=B4.trans (hb5.mono B4.size)
 have hbk5:w5.heap[w.heap.size]?=some (.cells (Zcc bs ⟨#[55,55]⟩ ⟨#[55,56]⟩).toArray 9):=by rw[hb5.block _ (Zag hb4)];exact hb4
 clear CS hb4 B4 hb5 c2 f2 c3 f3 hmk hcp
 have HF:Hid (Zzs E ec ep f):=hf
 clear hf
 have CI:Hid (∀X,Below w.heap.size w X→Calls prog 15 #[f,.int .i64 ((ec:Nat):Int),.int .i64 ((ep:Nat):Int)] X fun e w'=>e=.returned (.bool true)∧Below X.heap.size X w'):=fun X hX=>Z18 f ec ep X (Z25 HF.out X (S.below hX))
 have C6:=CR.out w5 B5
 unfold Zjr at C6
 clear CR
 go_wp2_with fail
 refine C6.mono ?_
 rintro e w6 ⟨rfl,hb6⟩
 have B6:=B5.trans (hb6.mono B5.size)
 have hbk6:w6.heap[w.heap.size]?=some (.cells (Zcc bs ⟨#[55,55]⟩ ⟨#[55,56]⟩).toArray 9):=by rw[hb6.block _ (Zag hbk5)];exact hbk5
 have k0:=Zel hbk6 (Zmi bs _ _)
 have k1:=Zel hbk6 (Zjs bs _ _)
 clear C6 hb6 hbk5 B5
 go_wp2_with fail
 go_loopg [14,15] bs.length (fun gh okv iv wr=>∃q:Nat,gh=bs.length-q∧okv=.bool true∧iv=.int .i64 ((q:Nat):Int)∧q≤bs.length∧Below w.heap.size w wr∧Hid (wr.heap[w.heap.size]?=some (.cells (Zcc bs ⟨#[55,55]⟩ ⟨#[55,56]⟩).toArray 9)))
 case atStart=>exact⟨0,by omega,rfl,rfl,by omega,by first | exact B6 | exact B6.drew | exact below_drewN B6 _,by first | exact hbk6 | exact (show _=_ from hbk6)⟩
 case round =>
  obtain⟨q,rfl,rfl,rfl,hq,hbr,hbk⟩:=hrel
  by_cases hlt:q<bs.length
  ·obtain⟨g,o,e0,hcq⟩:=hcell q hlt
   cases e0
   have d0:=Zel hbk.out (Zsv bs _ _ q hlt)
   have d1:=Below.cellv hbr hcq
   have hji:(q:Int)<((bs.length:Nat):Int):=by omega
   have hji2:(q:Int)<((bs.length:Nat):Int)+2:=by omega
   have hjn:q<bs.length+2:=by omega
   clear hcell hcq
   generalize bs[q]=bq at *
   go_wp2_with fail
   go_quiet (fail)
   go_wp2_with fail
   go_roundg (bs.length-(q+1))
   case measure=>omega
   case rel=>exact⟨q+1,rfl,by first | rfl | simp,by go_num,by omega,by first | exact below_drewN hbr _ | exact hbr.drew | exact hbr,by first | exact hbk | exact (show _=_ from hbk.out)⟩
  ·have hji:¬ (q:Int)<((bs.length:Nat):Int):=by omega
   clear hcell k0 k1 hbk6 B6
   go_wp2_with fail
   go_loopg [16] (bs.length+2) (fun gh iv wr=>∃(j:Nat) (cc:Array Value),gh=bs.length+2-j∧iv=.int .i64 ((j:Nat):Int)∧j≤bs.length+2∧Below w.heap.size w wr∧Hid (cc.size=bs.length+2)∧Hid (wr.heap[w.heap.size]?=some (.cells cc 9)))
   case atStart=>exact⟨0,(Zcc bs ⟨#[55,55]⟩ ⟨#[55,56]⟩).toArray,by omega,rfl,by omega,hbr,(show _=_ by simp[Zpr]),hbk⟩
   case round =>
    obtain⟨j,cc,rfl,rfl,hj,hbs2,hcc,hbk2⟩:=hrel
    by_cases hj2:j<bs.length+2
    ·have hcz:=hcc.out
     have d0:wr.cell? ⟨w.heap.size,j,none⟩=some (cc[j]'(by omega)):=by
      unfold World.cell?
      rw[hbk2.out]
      simp[show j<cc.size by omega]
     have d1:=Zfe hbk2.out j
     have hji2:(j:Int)<((bs.length:Nat):Int)+2:=by omega
     have hB7:=hbs2.setCell (p:=⟨w.heap.size,j,none⟩) (Nat.le_refl _) (.string ⟨#[120]⟩)
     have hK7:Hid ((wr.setCell ⟨w.heap.size,j,none⟩ (.string ⟨#[120]⟩)).heap[w.heap.size]?=some (.cells (cc.setIfInBounds j (.string ⟨#[120]⟩)) 9)):=Zau hbk2.out _
     have hC7:Hid ((cc.setIfInBounds j (.string ⟨#[120]⟩)).size=bs.length+2):=(show _=_ by simp[hcz])
     generalize cc[j]'(by omega)=cj at *
     clear hcz hcc hbk2
     go_wp2_with fail
     go_roundg (bs.length+2-(j+1))
     case measure=>omega
     case rel=>exact⟨j+1,_,rfl,by go_num,by omega,hB7,hC7,hK7⟩
    ·have hji2:¬ (j:Int)<((bs.length:Nat):Int)+2:=by omega
     have C8:=CI.out wr hbs2
     clear CI hcc hbk2
     go_wp2_with (go_at_call 15;refine C8.mono ?_;rintro e w8 ⟨rfl,hb8⟩)
     go_ret
     exact⟨rfl,hbs2.trans (hb8.mono hbs2.size)⟩
theorem lr_none (s nb:ByteArray)(bs:List ByteArray)(cap:Nat)(w:World)(E:Nat→Addr)(S:Zed w E)(hN:Zl4 w)(h15:15≤w.heap.size)(hs:s.size≤maxLen)(ha:Zeb w (.slice none bs.length cap) bs)(hbl:bs.length≤2000000)(hbz:∀b∈bs,b.size≤1000000000000):
  Calls prog 8 #[.string s,.string nb,.slice none bs.length cap] w fun e w'=>e=.returned (.bool true)∧Below w.heap.size w w':=by
 obtain⟨ts,hts⟩:=Zg0 s.data.toList _ 0 (Nat.zero_le _) (Nat.le_refl _)
 have ha':=ha
 obtain⟨ad0,cap0,he0,hc1,hc2,hbs,hcell⟩:=ha'
 cases he0
 have hmk:(Instr.makeSlice 30 (.int .i64 ((bs.length:Int)+2)) (.int .i64 ((bs.length:Int)+2))).run prog w=.ok (.slice (some ⟨w.heap.size,0,none⟩) (bs.length+2) (bs.length+2)) (w.alloc (.cells (List.replicate (bs.length+2) (Value.string ⟨#[]⟩)).toArray 9)):=by
  have h:=run_make_row' (P:=prog) 30 9 (.string ⟨#[]⟩) 16 underlying30 Tryz.infoLStr rfl .i64 .i64 (bs.length+2) (by omega) (by omega) w
  rw[show (((bs.length+2:Nat)):Int)=(bs.length:Int)+2 by omega] at h
  rw[h,←toList_madeCells_one]
 have hbi:((bs.length:Nat):Int)≤2000000:=by omega
 have B1:=Zab w (.cells (List.replicate (bs.length+2) (Value.string ⟨#[]⟩)).toArray 9)
 have hb1:(w.alloc (.cells (List.replicate (bs.length+2) (Value.string ⟨#[]⟩)).toArray 9)).heap[w.heap.size]?=some (.cells (List.replicate (bs.length+2) (Value.string ⟨#[]⟩)).toArray 9):=heap_alloc_new _ _
 generalize w.alloc (.cells (List.replicate (bs.length+2) (Value.string ⟨#[]⟩)).toArray 9)=w1 at *
 unfold maxLen at hc2
 obtain⟨w2,hcp,hb2,B2⟩:=Zt4 (cap:=cap) B1 hb1 hcell
 have c2:=Zel hb2 (Zmi bs _ _)
 have f2:=Zfe hb2 bs.length
 have hb3:(w2.setCell ⟨w.heap.size,bs.length,none⟩ (.string ⟨#[55,55]⟩)).heap[w.heap.size]?=some (.cells (Zcc bs ⟨#[55,55]⟩ ⟨#[]⟩).toArray 9):=by rw[Zau hb2,Zpq]
 have c3:=Zel hb3 (Zjs bs _ _)
 have f3:=Zfe hb3 (bs.length+1)
 have hb4:((w2.setCell ⟨w.heap.size,bs.length,none⟩ (.string ⟨#[55,55]⟩)).setCell ⟨w.heap.size,bs.length+1,none⟩ (.string ⟨#[55,56]⟩)).heap[w.heap.size]?=some (.cells (Zcc bs ⟨#[55,55]⟩ ⟨#[55,56]⟩).toArray 9):=by rw[Zau hb3,Znp]
 have B4:Below w.heap.size w ((w2.setCell ⟨w.heap.size,bs.length,none⟩ (.string ⟨#[55,55]⟩)).setCell ⟨w.heap.size,bs.length+1,none⟩ (.string ⟨#[55,56]⟩)):=(B2.setCell (p:=⟨w.heap.size,bs.length,none⟩) (Nat.le_refl _) _).setCell (p:=⟨w.heap.size,bs.length+1,none⟩) (Nat.le_refl _) _
 have hnil:∀X,(binOp .eql 30 (.slice none bs.length cap) (.slice none 0 0)).run prog X=.ok (.bool true) X:=fun X=>run_eql_nil_slice X 30 9 none bs.length cap 0 0 underlying30
 have CS:Hid (∀X,Below w.heap.size w X→X.heap[w.heap.size]?=some (.cells (Zcc bs ⟨#[55,55]⟩ ⟨#[55,56]⟩).toArray 9)→Calls prog 26 #[.string s,.string nb,(.slice none 0 0)] X (Zpv E (Zgd s.size ts nb.data.toList (bs.map (·.data.toList))) X)):=fun X hX hbX=>by
  have SX:=S.below hX
  refine Zlk s nb _ bs X E SX.er ⟨SX.et,_,SX.e8⟩ (hN.below hX) (Nat.le_trans h15 hX.size) hs (fun _=>hts) ?_ hbl hbz
  have h0:bs=[]:=by
   cases bs with
   | nil=>rfl
   | cons b r =>
    obtain⟨g,o,e,_⟩:=hcell 0 (by simp)
    cases e
  subst h0
  exact⟨none,0,rfl,Nat.le_refl _,by decide,by simp,fun i hi=>by simp at hi⟩
 have CR:Hid (∀X,Below w.heap.size w X→Calls prog 27 #[.string s,.string nb,.slice none bs.length cap] X (Zjr (Zgd s.size ts nb.data.toList (bs.map (·.data.toList))) X)):=fun X hX=>Zno s nb _ bs X hs hts hbl (ha.below hX)
 clear hb1 B1 hb2 hb3 B2 hbz hts ha
 generalize Zgd s.size ts nb.data.toList (bs.map (·.data.toList))=RR at *
 obtain⟨T,ec,ep⟩:=RR
 go_enter func8,ntmps8
 go_wp2_with fail
 refine (CS.out _ B4 hb4).mono ?_
 rintro e w5 ⟨hb5,f,rfl,hf⟩
 have B5:=B4.trans (hb5.mono B4.size)
 have hbk5:w5.heap[w.heap.size]?=some (.cells (Zcc bs ⟨#[55,55]⟩ ⟨#[55,56]⟩).toArray 9):=by rw[hb5.block _ (Zag hb4)];exact hb4
 clear CS hb4 B4 hb5 c2 f2 c3 f3 hmk hcp
 have HF:Hid (Zzs E ec ep f):=hf
 clear hf
 have CI:Hid (∀X,Below w.heap.size w X→Calls prog 15 #[f,.int .i64 ((ec:Nat):Int),.int .i64 ((ep:Nat):Int)] X fun e w'=>e=.returned (.bool true)∧Below X.heap.size X w'):=fun X hX=>Z18 f ec ep X (Z25 HF.out X (S.below hX))
 have C6:=CR.out w5 B5
 unfold Zjr at C6
 clear CR
 go_wp2_with fail
 refine C6.mono ?_
 rintro e w6 ⟨rfl,hb6⟩
 have B6:=B5.trans (hb6.mono B5.size)
 have hbk6:w6.heap[w.heap.size]?=some (.cells (Zcc bs ⟨#[55,55]⟩ ⟨#[55,56]⟩).toArray 9):=by rw[hb6.block _ (Zag hbk5)];exact hbk5
 have k0:=Zel hbk6 (Zmi bs _ _)
 have k1:=Zel hbk6 (Zjs bs _ _)
 clear C6 hb6 hbk5 B5
 go_wp2_with fail
 go_loopg [14,15] bs.length (fun gh okv iv wr=>∃q:Nat,gh=bs.length-q∧okv=.bool true∧iv=.int .i64 ((q:Nat):Int)∧q≤bs.length∧Below w.heap.size w wr∧Hid (wr.heap[w.heap.size]?=some (.cells (Zcc bs ⟨#[55,55]⟩ ⟨#[55,56]⟩).toArray 9)))
 case atStart=>exact⟨0,by omega,rfl,rfl,by omega,by first | exact B6 | exact B6.drew | exact below_drewN B6 _,by first | exact hbk6 | exact (show _=_ from hbk6)⟩
 case round =>
  obtain⟨q,rfl,rfl,rfl,hq,hbr,hbk⟩:=hrel
  by_cases hlt:q<bs.length
  ·obtain⟨g,o,e0,hcq⟩:=hcell q hlt
   cases e0
  ·have hji:¬ (q:Int)<((bs.length:Nat):Int):=by omega
   clear hcell k0 k1 hbk6 B6
   go_wp2_with fail
   go_loopg [16] (bs.length+2) (fun gh iv wr=>∃(j:Nat) (cc:Array Value),gh=bs.length+2-j∧iv=.int .i64 ((j:Nat):Int)∧j≤bs.length+2∧Below w.heap.size w wr∧Hid (cc.size=bs.length+2)∧Hid (wr.heap[w.heap.size]?=some (.cells cc 9)))
   case atStart=>exact⟨0,(Zcc bs ⟨#[55,55]⟩ ⟨#[55,56]⟩).toArray,by omega,rfl,by omega,hbr,(show _=_ by simp[Zpr]),hbk⟩
   case round =>
    obtain⟨j,cc,rfl,rfl,hj,hbs2,hcc,hbk2⟩:=hrel
    by_cases hj2:j<bs.length+2
    ·have hcz:=hcc.out
     have d0:wr.cell? ⟨w.heap.size,j,none⟩=some (cc[j]'(by omega)):=by
      unfold World.cell?
      rw[hbk2.out]
      simp[show j<cc.size by omega]
     have d1:=Zfe hbk2.out j
     have hji2:(j:Int)<((bs.length:Nat):Int)+2:=by omega
     have hB7:=hbs2.setCell (p:=⟨w.heap.size,j,none⟩) (Nat.le_refl _) (.string ⟨#[120]⟩)
     have hK7:Hid ((wr.setCell ⟨w.heap.size,j,none⟩ (.string ⟨#[120]⟩)).heap[w.heap.size]?=some (.cells (cc.setIfInBounds j (.string ⟨#[120]⟩)) 9)):=Zau hbk2.out _
     have hC7:Hid ((cc.setIfInBounds j (.string ⟨#[120]⟩)).size=bs.length+2):=(show _=_ by simp[hcz])
     generalize cc[j]'(by omega)=cj at *
     clear hcz hcc hbk2
     go_wp2_with fail
     go_roundg (bs.length+2-(j+1))
     case measure=>omega
     case rel=>exact⟨j+1,_,rfl,by go_num,by omega,hB7,hC7,hK7⟩
    ·have hji2:¬ (j:Int)<((bs.length:Nat):Int)+2:=by omega
     have C8:=CI.out wr hbs2
     clear CI hcc hbk2
     go_wp2_with (go_at_call 15;refine C8.mono ?_;rintro e w8 ⟨rfl,hb8⟩)
     go_ret
     exact⟨rfl,hbs2.trans (hb8.mono hbs2.size)⟩
theorem Ztn (s nb:ByteArray)(sv:Value)(bs:List ByteArray)(w:World)(E:Nat→Addr)(S:Zed w E)(hN:Zl4 w)(h15:15≤w.heap.size)(hs:s.size≤maxLen)(ha:Zeb w sv bs)(hbl:bs.length≤2000000)(hbz:∀b∈bs,b.size≤1000000000000):
  Calls prog 8 #[.string s,.string nb,sv] w fun e w'=>e=.returned (.bool true)∧Below w.heap.size w w':=by
 have ha':=ha
 obtain⟨ad,cap,rfl,_⟩:=ha'
 cases ad with
 | none=>exact lr_none s nb bs cap w E S hN h15 hs ha hbl hbz
 | some a0=>exact lr_some s nb a0 bs cap w E S hN h15 hs ha hbl hbz
abbrev stepV (k e m:Int)(s t:ByteArray)(lv pv:Value):Value:=.agg #[.int .i64 k,.int .i64 e,.int .i64 m,.string s,.string t,lv,pv]
def Zr9 (w:World)(wb:Nat):Prop:=w.heap[wb]?=some (.cells #[.slice none 0 0] 28)
theorem Zr9.below {w w':World}{wb:Nat}(h:Zr9 w wb)(hb:Below w.heap.size w w'):Zr9 w' wb:=by
 unfold Zr9 at h ⊢
 rw[hb.block _ (Zag h)]
 exact h
theorem Zr9.cell {w:World}{wb:Nat}(h:Zr9 w wb):w.cell? ⟨wb,0,none⟩=some (.slice none 0 0):=by
 unfold World.cell?
 rw[h]
 rfl
theorem Zqn (k e m:Int)(hk:k≤2)(s t:ByteArray)(la pa:Option Addr)(ln lc pn pc:Nat)(bs:List ByteArray)(wb:Nat)(w:World)(E:Nat→Addr)(S:Zed w E)(hN:Zl4 w)(h15:15≤w.heap.size)(hW:Zr9 w wb)(hs:s.size≤maxLen)(ha:Zeb w (.slice la ln lc) bs)(hbl:bs.length≤2000000)(hbz:∀b∈bs,b.size≤1000000000000):
  Calls prog 6 #[.pointer (some ⟨wb,0,none⟩),stepV k e m s t (.slice la ln lc) (.slice pa pn pc)] w fun e w'=>e=.returned (.bool true)∧Below w.heap.size w w':=by
 have bX:=Zab w (Obj.cells #[.int .i64 k,.int .i64 e,.int .i64 m,.string s,.string t,.slice la ln lc,.slice pa pn pc] 33)
 have CK:=Zzg s _ E (S.below bX) (Nat.le_trans h15 bX.size) hs
 have CL:=Ztn s t _ bs _ E (S.below bX) (hN.below bX) (Nat.le_trans h15 bX.size) hs (ha.below bX) hbl hbz
 have c0:=(hW.below bX).cell
 have FIN:Hid (∀X,Below (w.alloc (Obj.cells #[.int .i64 k,.int .i64 e,.int .i64 m,.string s,.string t,.slice la ln lc,.slice pa pn pc] 33)).heap.size (w.alloc (Obj.cells #[.int .i64 k,.int .i64 e,.int .i64 m,.string s,.string t,.slice la ln lc,.slice pa pn pc] 33)) X→Below w.heap.size w X):=fun X hX=>bX.trans (hX.mono bX.size)
 clear hW ha hN S
 by_cases h1:k=1
 ·subst h1
  clear CL
  go_enter func6,ntmps6
  go_wp2_with (go_at_call 7;refine CK.mono ?_;rintro e w1 ⟨rfl,hb1⟩)
  go_ret
  exact⟨rfl,FIN.out _ hb1⟩
 by_cases h2:k=2
 ·subst h2
  clear CK
  go_enter func6,ntmps6
  go_wp2_with (go_at_call 8;refine CL.mono ?_;rintro e w1 ⟨rfl,hb1⟩)
  go_ret
  exact⟨rfl,FIN.out _ hb1⟩
 ·have h3:k≠3:=by omega
  clear CK CL
  go_enter func6,ntmps6
  go_wp2_with fail
  go_ret
  exact⟨rfl,FIN.out _ (Below.refl _ _)⟩
end Go.Proofs.YtliapghpeoaonaaGreatDoor
