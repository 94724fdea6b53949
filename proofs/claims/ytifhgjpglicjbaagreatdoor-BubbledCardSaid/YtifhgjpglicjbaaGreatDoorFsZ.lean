/-
  Frames, the program: the handlers that are asked: plainly, and in memory.
-/
import Derived.Test.YtifhgjpglicjbaaGreatDoorFsY
set_option maxHeartbeats 1000000
set_option maxRecDepth 8000
namespace Go.Proofs.YtifhgjpglicjbaaGreatDoor
open Go.Proofs.Tryz
open Go.RowKit Go.Lib
attribute [local go_sem ↓] Go.wp_at_zero Go.wp_at_succ
def askH (ev:List UInt8)(ts:Tg)(hs:List Hd):List (Hd×Tg):=(hs.filter fun h=>h.ev==ev).map fun h=>(h,ts)
def stopH (ev:List UInt8)(hs:List Hd):Bool:=hs.any fun h=>h.ev==ev&&h.stops
def askA (ev:List UInt8):List (An×Tg)→List (Hd×Tg)
 | []=>[]
 | x::r=>askH ev x.2 (hdsA x.1)++if stopH ev (hdsA x.1) then [] else askA ev r
def AskC (w:World)(D:Nat→Prop):List (Hd×Tg)→List Value→Prop
 | [],cs=>cs=[]
 | a::r,cs=>∃(s:ByteArray) (x tv:Value) (q:List Value),cs=.string s::x::.bool a.1.stops::tv::q∧VL w D a.1.msg x∧SegAt w TT 9 1 tv a.2.length (tgV a.2)∧AskC w D r q
theorem AskC.map {w w':World}{D:Nat→Prop}(hk:TyKeep 9 w w')(hv:TyKeep 74 w w'):∀{l:List (Hd×Tg)} {cs:List Value},AskC w D l cs→AskC w' D l cs
 | [],cs,h=>h
 | a::r,cs,h=>by
  obtain⟨s,x,tv,q,h1,h2,h3,h4⟩:=h
  exact⟨s,x,tv,q,h1,h2.tyKeep hv,h3.tyKeep hk,AskC.map hk hv h4⟩
theorem AskC.snoc {w:World}{D:Nat→Prop}{a:Hd×Tg}{s:ByteArray}{x tv:Value}(hx:VL w D a.1.msg x)(ht:SegAt w TT 9 1 tv a.2.length (tgV a.2)):∀{l:List (Hd×Tg)} {cs:List Value},AskC w D l cs→AskC w D (l++[a]) (cs++[.string s,x,.bool a.1.stops,tv])
 | [],cs,h=>by
  have h:cs=[]:=h
  subst h
  exact⟨s,x,tv,[],rfl,hx,ht,rfl⟩
 | b::r,cs,h=>by
  obtain⟨s',x',tv',q,h1,h2,h3,h4⟩:=h
  exact⟨s',x',tv',q++[.string s,x,.bool a.1.stops,tv],by rw[h1];rfl,h2,h3,AskC.snoc hx ht h4⟩
theorem AskC.append {w:World}{D:Nat→Prop}{m:List (Hd×Tg)}{ds:List Value}(hm:AskC w D m ds):∀{l:List (Hd×Tg)} {cs:List Value},AskC w D l cs→AskC w D (l++m) (cs++ds)
 | [],cs,h=>by
  have h:cs=[]:=h
  subst h
  exact hm
 | b::r,cs,h=>by
  obtain⟨s',x',tv',q,h1,h2,h3,h4⟩:=h
  exact⟨s',x',tv',q++ds,by rw[h1];rfl,h2,h3,AskC.append hm h4⟩
theorem AskC.one_cell {w:World}{D:Nat→Prop}:∀{l:List (Hd×Tg)} {cs:List Value},AskC w D l cs→∀u∈cs,u.oneCell'=true
 | [],cs,h,u,hu=>by
  have h:cs=[]:=h
  subst h
  simp at hu
 | a::r,cs,h,u,hu=>by
  obtain⟨s,x,tv,q,rfl,h2,h3,h4⟩:=h
  obtain⟨tx,yx,rfl⟩:=h2.iface
  obtain⟨ad,cap,rfl⟩:=h3.slice
  simp only[List.mem_cons] at hu
  rcases hu with rfl | rfl | rfl | rfl | hu
  ·rfl
  ·rfl
  ·rfl
  ·rfl
  ·exact AskC.one_cell h4 u hu
theorem HdC.at {w:World}{D:Nat→Prop}:∀{l:List Hd} {cs:List Value},HdC w D l cs→∀j (hj:j<l.length),∃(s:ByteArray) (x:Value),cs[j*3]?=some (.string s)∧cs[j*3+1]?=some x∧cs[j*3+2]?=some (.bool l[j].stops)∧s.data.toList=l[j].ev∧VL w D l[j].msg x
 | [],cs,h,j,hj=>by simp at hj
 | a::r,cs,h,0,hj=>by
  obtain⟨s,x,q,rfl,h2,h3,h4⟩:=h
  exact⟨s,x,rfl,rfl,rfl,h2,h3⟩
 | a::r,cs,h,j+1,hj=>by
  obtain⟨s,x,q,rfl,h2,h3,h4⟩:=h
  obtain⟨s',x',p1,p2,p3,p4,p5⟩:=HdC.at h4 j (by simpa using hj)
  refine⟨s',x',?_,?_,?_,p4,p5⟩
  ·rw[show (j+1)*3=j*3+1+1+1 by omega];simpa using p1
  ·rw[show (j+1)*3+1=j*3+1+1+1+1 by omega];simpa using p2
  ·rw[show (j+1)*3+2=j*3+2+1+1+1 by omega];simpa using p3
theorem askH_snoc (ev:List UInt8)(ts:Tg)(hs:List Hd)(h:Hd):askH ev ts (hs++[h])=askH ev ts hs++if h.ev==ev then [(h,ts)] else []:=by
 unfold askH
 rw[List.filter_append,List.map_append]
 cases e:(h.ev==ev)<;>simp[e]
theorem stopH_snoc (ev:List UInt8)(hs:List Hd)(h:Hd):stopH ev (hs++[h])=(stopH ev hs || (h.ev==ev&&h.stops)):=by
 unfold stopH
 rw[List.any_append]
 simp
structure AsI (w:World)(D:Nat→Prop)(ev:List UInt8)(ts:Tg)(hs:List Hd)(wr:World)(j:Nat)(v:Value)(n:Nat):Prop where
 bel:Below w.heap.size w wr
 len:n=(askH ev ts (hs.take j)).length
 own:∃cs,wr.ownsRow w.heap.size 162 4 v n cs∧AskC wr D (askH ev ts (hs.take j)) cs
theorem AsI.nle {w:World}{D:Nat→Prop}{ev:List UInt8}{ts:Tg}{hs:List Hd}{wr:World}{j:Nat}{v:Value}{n:Nat}(h:AsI w D ev ts hs wr j v n):n≤hs.length:=by
 rw[h.len]
 unfold askH
 rw[List.length_map]
 have:=List.length_filter_le (fun h:Hd=>h.ev==ev) (hs.take j)
 have h2:=List.length_take_le' j hs
 omega
theorem AsI.skip {w:World}{D:Nat→Prop}{ev:List UInt8}{ts:Tg}{hs:List Hd}{wr:World}{j:Nat}{v:Value}{n:Nat}(h:AsI w D ev ts hs wr j v n)(hj:j<hs.length)(he:hs[j].ev≠ev){X:World}(hX:Below wr.heap.size wr X):AsI w D ev ts hs X (j+1) v n:=by
 have e:askH ev ts (hs.take (j+1))=askH ev ts (hs.take j):=by
  rw[List.take_succ_eq_append_getElem hj,askH_snoc,if_neg (by simpa using he),List.append_nil]
 obtain⟨cs,h1,h2⟩:=h.own
 refine⟨h.bel.trans (hX.mono h.bel.size),by rw[e];exact h.len,cs,owns_keep h1 fun k hk=>hX.block k (h1.lt k hk).2,?_⟩
 rw[e]
 exact h2.map (.of_below hX) (.of_below hX)
theorem AsI.take {w:World}{D:Nat→Prop}{ev:List UInt8}{ts:Tg}{hs:List Hd}{wr:World}{j:Nat}{v:Value}{n:Nat}(h:AsI w D ev ts hs wr j v n)(hj:j<hs.length)(he:hs[j].ev=ev){X:World}(hX:Below wr.heap.size wr X){s:ByteArray}{x tv:Value}(hx:VL w D hs[j].msg x)(ht:SegAt w TT 9 1 tv ts.length (tgV ts)):
  ∃cs,X.ownsRow w.heap.size 162 4 v n cs∧∀v' w6,w6.ownsRow w.heap.size 162 4 v' (n+1) (cs++[.string s,x,.bool hs[j].stops,tv])→X.grownBy w6 v.ownBlock→AsI w D ev ts hs w6 (j+1) v' (n+1):=by
 obtain⟨cs,h1,h2⟩:=h.own
 have hb:=h.bel.trans (hX.mono h.bel.size)
 have o1:X.ownsRow w.heap.size 162 4 v n cs:=owns_keep h1 fun k hk=>hX.block k (h1.lt k hk).2
 refine⟨cs,o1,fun v' w6 ho hg=>?_⟩
 have e:askH ev ts (hs.take (j+1))=askH ev ts (hs.take j)++[(hs[j],ts)]:=by
  rw[List.take_succ_eq_append_getElem hj,askH_snoc,if_pos (by simpa using he)]
 have hb6:Below w.heap.size w w6:=hb.grown hg hb.size fun k hk=>(o1.lt k hk).1
 refine⟨hb6,by rw[e,List.length_append,←h.len];rfl,_,ho,?_⟩
 rw[e]
 exact AskC.snoc (a:=(hs[j],ts)) (hx.tyKeep (.of_below hb6)) (ht.tyKeep (.of_below hb6)) (h2.map ((TyKeep.of_below hX).trans (grown_tyKeep o1 hg (by decide))) ((TyKeep.of_below hX).trans (grown_tyKeep o1 hg (by decide))))
theorem Tryz.infoAsked:(prog.info? 162).map (fun i=>(i.zero,i.size,i.bytes))=some (some (.agg #[.string ⟨#[]⟩,.nilIface,.bool false,.slice none 0 0]),4,64):=by kernel_rfl
theorem underlying113:prog.underlying 113=some (.slice 162):=by kernel_rfl
def askP (w:World)(D:Nat→Prop)(al:List (Hd×Tg))(st:Bool)(e:Ending)(w':World):Prop :=
 ∃ad cap cs,e=.returned (.tuple #[.slice ad al.length cap,.bool st])∧SegAt w' TT 162 4 (.slice ad al.length cap) al.length cs∧AskC w' D al cs∧Below w.heap.size w w'
theorem askOne_any (D:Nat→Prop)(x:An×Tg)(tv:Value)(evB:ByteArray)(w:World)(hx:AnD w D x.1)(hsh:shownA x.1=true)(ht:SegAt w TT 9 1 tv x.2.length (tgV x.2))(hl:(hdsA x.1).length≤1000):
  Calls prog 69 #[.agg #[x.1.val,tv],.string evB] w (askP w D (askH evB.data.toList x.2 (hdsA x.1)) (stopH evB.data.toList (hdsA x.1))):=by
 have bA:=below1 w (.cells #[x.1.val,tv] 150)
 have CH:=handlersOf_any (hx.below bA) hsh
 have S0:Hid (AsI (w.alloc (.cells #[x.1.val,tv] 150)) D evB.data.toList x.2 (hdsA x.1) (w.alloc (.cells #[x.1.val,tv] 150)) 0 (.slice none 0 0) 0):=⟨Below.refl _ _,by simp[askH],[],World.ownsRow_nil _ _ _ _,by simp[askH];rfl⟩
 have ROW:Hid (∀ad cap hc,SegAt (w.alloc (.cells #[x.1.val,tv] 150)) TT 160 3 (.slice ad (hdsA x.1).length cap) (hdsA x.1).length hc→HdC (w.alloc (.cells #[x.1.val,tv] 150)) D (hdsA x.1) hc→∀j (hj:j<(hdsA x.1).length),∃g o s tx yx,ad=some ⟨g,o,none⟩∧(hdsA x.1).length≤cap∧cap≤9223372036854775807∧s.data.toList=(hdsA x.1)[j].ev∧(∀X,Below (w.alloc (.cells #[x.1.val,tv] 150)).heap.size (w.alloc (.cells #[x.1.val,tv] 150)) X→X.cell? ⟨g,o+j*3,none⟩=some (.string s)∧X.cell? ⟨g,o+j*3+1,none⟩=some (.iface tx yx)∧X.cell? ⟨g,o+j*3+2,none⟩=some (.bool (hdsA x.1)[j].stops))∧VL (w.alloc (.cells #[x.1.val,tv] 150)) D (hdsA x.1)[j].msg (.iface tx yx)):=fun ad cap hc h1 h2 j hj=>by
  obtain⟨g,o,cap',he,_,hc1,hc2,hcell⟩:=h1.cell (by omega)
  cases he
  obtain⟨s,x',p1,p2,p3,p4,p5⟩:=h2.at j hj
  obtain⟨tx,yx,rfl⟩:=p5.iface
  unfold maxLen at hc2
  refine⟨g,o,s,tx,yx,rfl,hc1,by omega,p4,fun X hX=>⟨Below.cellv hX ?_,Below.cellv hX ?_,Below.cellv hX ?_⟩,p5⟩
  ·rw[hcell (j*3) (by omega),p1]
  ·rw[Nat.add_assoc,hcell (j*3+1) (by omega),p2]
  ·rw[Nat.add_assoc,hcell (j*3+2) (by omega),p3]
 have htA:=ht.below bA
 have TA:Hid (SegAt (w.alloc (.cells #[x.1.val,tv] 150)) TT 9 1 tv x.2.length (tgV x.2)):=htA
 have DONE:Hid (∀wr j ad n cap,AsI (w.alloc (.cells #[x.1.val,tv] 150)) D evB.data.toList x.2 (hdsA x.1) wr j (.slice ad n cap) n→¬ j<(hdsA x.1).length→askP w D (askH evB.data.toList x.2 (hdsA x.1)) (stopH evB.data.toList (hdsA x.1)) (.returned (.tuple #[.slice ad n cap,.bool (stopH evB.data.toList ((hdsA x.1).take j))])) wr):=fun wr j ad n cap hA hj=>by
  have hl:=hA.len
  obtain⟨cs,h1,h2⟩:=hA.own
  rw[List.take_of_length_le (by omega)] at hl h2 ⊢
  subst hl
  exact⟨ad,cap,cs,rfl,(SegAt.of_row (RowAt.of_owns h1)).weaken fun _ _=>trivial,h2,bA.trans (hA.bel.mono bA.size)⟩
 clear htA
 obtain⟨tad,tcap,rfl⟩:=ht.slice
 obtain⟨tn,bn,hn⟩:=x.1.val_iface
 rw[hn] at CH S0 ROW bA TA DONE ⊢
 generalize askP w D (askH evB.data.toList x.2 (hdsA x.1)) (stopH evB.data.toList (hdsA x.1))=POST at *
 have HD0:(w.alloc (.cells #[.iface tn (.pointer (some ⟨bn,0,none⟩)),.slice tad x.2.length tcap] 150)).heap[w.heap.size]?=some (.cells #[.iface tn (.pointer (some ⟨bn,0,none⟩)),.slice tad x.2.length tcap] 150):=heap_alloc_new _ _
 go_enter func69,ntmps69
 go_wp2_with (go_at_call 93;refine CH.mono ?_;rintro e w1 ⟨had,hcap,hc,rfl,hr1,hr2,rfl⟩)
 have RW:=ROW.out had hcap hc hr1 hr2
 have ROWS:Hid _:=RW
 have hlen:((hdsA x.1).length:Int)≤1000:=by omega
 clear ROW CH RW hr1 hr2 hn
 generalize (w.alloc (.cells #[.iface tn (.pointer (some ⟨bn,0,none⟩)),.slice tad x.2.length tcap] 150))=W0 at *
 go_loopg [6,7,14] (hdsA x.1).length (fun gh av sv jv wr=>∃(j n:Nat) (st:Bool) (aad:Option Addr) (acap:Nat),gh=(hdsA x.1).length-j∧jv=.int .i64 ((j:Nat):Int)∧j≤(hdsA x.1).length∧av=.slice aad n acap∧sv=.bool st∧Aside (AsI W0 D evB.data.toList x.2 (hdsA x.1) wr j av n∧st=stopH evB.data.toList ((hdsA x.1).take j)))
 case atStart=>exact⟨0,0,false,none,0,by omega,rfl,Nat.zero_le _,rfl,rfl,(show _∧_ from ⟨S0.out,rfl⟩)⟩
 case round =>
  obtain⟨j,n,st,aad,acap,rfl,rfl,hj,rfl,rfl,hA⟩:=hrel
  by_cases hlt:j<(hdsA x.1).length
  ·have hji:(j:Int)<((hdsA x.1).length:Int):=by omega
   obtain⟨hI,hst⟩:=hA.out
   obtain⟨g,o,s,tx,yx,rfl,hc1,hc2,hev,hcell,hvl⟩:=ROWS.out j hlt
   obtain⟨d0,d1,d2⟩:=hcell wr hI.bel
   have hnle:=hI.nle
   have t0:wr.cell? ⟨w.heap.size,1,none⟩=some (.slice tad x.2.length tcap):=Below.cellv hI.bel (by unfold World.cell?;rw[HD0];rfl)
   have hts:(hdsA x.1).take (j+1)=(hdsA x.1).take j++[(hdsA x.1)[j]]:=List.take_succ_eq_append_getElem hlt
   have hSt:=stopH_snoc evB.data.toList ((hdsA x.1).take j) (hdsA x.1)[j]
   rw[←hts,←hst] at hSt
   by_cases heq:s.data.toList=evB.data.toList
   ·have hs:s=evB:=by
     apply ByteArray.ext
     exact Array.toList_inj.1 heq
    subst hs
    have he:(hdsA x.1)[j].ev=s.data.toList:=hev.symm
    rw[he] at hSt
    simp only[beq_self_eq_true,Bool.true_and] at hSt
    generalize hhb:(hdsA x.1)[j].stops=hb at *
    have bX:Below wr.heap.size wr ((wr.alloc (.cells #[.string s,.iface tx yx,.bool hb] 160)).alloc (.cells #[.string s,.iface tx yx,.bool hb,.slice tad x.2.length tcap] 162)):=(below1 wr _).alloc (by simp) _
    obtain⟨cs,own,NX⟩:=hI.take hlt he bX (s:=s) hvl TA.out
    rw[hhb] at NX
    have own0:=hI.own
    have AFT:Hid (∀v9 w9,w9.ownsRow W0.heap.size 162 4 v9 (n+1) (cs++[.string s,.iface tx yx,.bool hb,.slice tad x.2.length tcap])→((wr.alloc (.cells #[.string s,.iface tx yx,.bool hb] 160)).alloc (.cells #[.string s,.iface tx yx,.bool hb,.slice tad x.2.length tcap] 162)).grownBy w9 (Value.slice aad n acap).ownBlock→AsI W0 D s.data.toList x.2 (hdsA x.1) w9 (j+1) v9 (n+1)∧w9.cell? ⟨wr.heap.size,2,none⟩=some (.bool hb)):=fun v9 w9 h1 h2=>by
     refine⟨NX v9 w9 h1 h2,?_⟩
     rw[h2.cell_far _ (by simp;omega) (fun e=>?_)]
     ·rw[World.cell?_alloc_lt _ _ ⟨wr.heap.size,2,none⟩ (by simp)]
      simp
     ·obtain⟨cs0,o0,_⟩:=own0
      have:wr.heap.size<wr.heap.size:=(o0.lt _ e.symm).2
      omega
    have HS:Hid (stopH s.data.toList ((hdsA x.1).take (j+1))=(st || hb)):=hSt
    have hwlt:w.heap.size<wr.heap.size:=cell_lt t0
    have hni:(n:Int)≤1000:=by omega
    have hW0:=hI.bel.size
    clear hA hI hst NX own0 hcell hvl hev he hts hSt DONE S0 TA ROWS HD0 bX hhb heq
    cases st
    all_goals
     go_wp2_with (at_builtin;obtain⟨i0,hi,hz0,hz1,hz2⟩:=info_parts Tryz.infoAsked;refine wpList_append_own_at _ rfl _ _ 113 rfl W0.heap.size 162 i0 (.agg #[.string ⟨#[]⟩,.nilIface,.bool false,.slice none 0 0]) 4 64 underlying113 hi hz0 hz1 hz2 rfl (by decide) _ _ _ rfl own ⟨wr.heap.size+1,0,none⟩ 1 1 [.string s,.iface tx yx,.bool hb,.slice tad x.2.length tcap] rfl rfl (World.news_of_block (by have:=heap_alloc_new (wr.alloc (.cells #[.string s,.iface tx yx,.bool hb] 160)) (.cells #[.string s,.iface tx yx,.bool hb,.slice tad x.2.length tcap] 162);simpa using this)) (fun u hu=>by simp at hu;rcases hu with rfl | rfl | rfl | rfl<;>rfl) (by unfold maxLen;omega) (by omega) (by simp;omega) ?_;intro v9 w9 own9 hg9 hn9 hob9;clear hi hz0 hz1 hz2;obtain⟨A9,c9⟩:=AFT.out v9 w9 own9 hg9;have A10:Hid _:=A9;clear A9;obtain⟨ad9,cap9,rfl⟩:=owns_slice own9)
     go_roundg ((hdsA x.1).length-(j+1))
     case measure=>omega
     case rel=>exact⟨j+1,n+1,_,ad9,cap9,rfl,by go_num,by omega,rfl,rfl,(show _∧_ from ⟨A10.out,HS.out.symm⟩)⟩
   ·have he:(hdsA x.1)[j].ev≠evB.data.toList:=by rw[←hev];exact heq
    have hbq:((hdsA x.1)[j].ev==evB.data.toList)=false:=by simpa using he
    rw[hbq] at hSt
    simp only[Bool.false_and,Bool.or_false] at hSt
    have heq2:(s.toList==evB.toList)=false:=by
     rw[ByteArray.toList_eq,ByteArray.toList_eq]
     simpa using heq
    generalize (hdsA x.1)[j].stops=hb at *
    have NX:Hid (AsI W0 D evB.data.toList x.2 (hdsA x.1) (wr.alloc (.cells #[.string s,.iface tx yx,.bool hb] 160)) (j+1) (.slice aad n acap) n):=hI.skip hlt he (below1 wr _)
    have HS:Hid (stopH evB.data.toList ((hdsA x.1).take (j+1))=st):=hSt
    clear hA hI hst hcell hvl hev he hts hSt DONE S0 TA ROWS HD0 heq hbq
    go_wp2_with fail
    go_roundg ((hdsA x.1).length-(j+1))
    case measure=>omega
    case rel=>exact⟨j+1,n,st,aad,acap,rfl,by go_num,by omega,rfl,rfl,(show _∧_ from ⟨NX.out,HS.out.symm⟩)⟩
  ·have hji:¬ (j:Int)<((hdsA x.1).length:Int):=by omega
   obtain⟨hI,hst⟩:=hA.out
   have FI:=DONE.out wr j _ n _ hI hlt
   rw[←hst] at FI
   have FI2:Hid _:=FI
   clear hA hI hst FI DONE S0 TA ROWS HD0
   go_wp2_with fail
   exact FI2.out
theorem FndC.at {w:World}:∀{l:List (An×Tg)} {cs:List Value},FndC w l cs→∀j (hj:j<l.length),∃tv,cs[j*2]?=some l[j].1.val∧cs[j*2+1]?=some tv∧SegAt w TT 9 1 tv l[j].2.length (tgV l[j].2)
 | [],cs,h,j,hj=>by simp at hj
 | a::r,cs,h,0,hj=>by
  obtain⟨tv,q,rfl,h2,h3⟩:=h
  exact⟨tv,rfl,rfl,h2⟩
 | a::r,cs,h,j+1,hj=>by
  obtain⟨tv,q,rfl,h2,h3⟩:=h
  obtain⟨tv',p1,p2,p3⟩:=FndC.at h3 j (by simpa using hj)
  refine⟨tv',?_,?_,p3⟩
  ·rw[show (j+1)*2=j*2+1+1 by omega];simpa using p1
  ·rw[show (j+1)*2+1=j*2+1+1+1 by omega];simpa using p2
theorem askH_len (ev:List UInt8)(ts:Tg)(hs:List Hd):(askH ev ts hs).length≤hs.length:=by
 unfold askH
 rw[List.length_map]
 exact List.length_filter_le _ _
structure AkI (w:World)(D:Nat→Prop)(ev:List UInt8)(fs:List (An×Tg))(wr:World)(k:Nat)(v:Value)(n:Nat):Prop where
 bel:Below w.heap.size w wr
 own:∃acc cs,wr.ownsRow w.heap.size 162 4 v n cs∧AskC wr D acc cs∧n=acc.length∧askA ev fs.reverse=acc++askA ev (fs.take k).reverse
 le:n≤1000*(fs.length-k)
def akP (w:World)(D:Nat→Prop)(al:List (Hd×Tg))(e:Ending)(w':World):Prop :=
 ∃ad cap cs,e=.returned (.slice ad al.length cap)∧SegAt w' TT 162 4 (.slice ad al.length cap) al.length cs∧AskC w' D al cs∧Below w.heap.size w w'
theorem AkI.next {w:World}{D:Nat→Prop}{ev:List UInt8}{fs:List (An×Tg)}{wr:World}{m:Nat}{v:Value}{n:Nat}(h:AkI w D ev fs wr (m+1) v n)(hm:m<fs.length)(hl:(hdsA fs[m].1).length≤1000){X:World}(hX:Below wr.heap.size wr X){ds:List Value}(hd:AskC X D (askH ev fs[m].2 (hdsA fs[m].1)) ds):
  ∃cs,X.ownsRow w.heap.size 162 4 v n cs∧w.heap.size≤X.heap.size∧(∀u∈ds,u.oneCell'=true)∧n+(askH ev fs[m].2 (hdsA fs[m].1)).length≤1000*(fs.length-m)∧∀ad cap w6,w6.ownsRow w.heap.size 162 4 (.slice ad (n+(askH ev fs[m].2 (hdsA fs[m].1)).length) cap) (n+(askH ev fs[m].2 (hdsA fs[m].1)).length) (cs++ds)→X.grownBy w6 v.ownBlock→(stopH ev (hdsA fs[m].1)=true→akP w D (askA ev fs.reverse) (.returned (.slice ad (n+(askH ev fs[m].2 (hdsA fs[m].1)).length) cap)) w6)∧(stopH ev (hdsA fs[m].1)=false→AkI w D ev fs w6 m (.slice ad (n+(askH ev fs[m].2 (hdsA fs[m].1)).length) cap) (n+(askH ev fs[m].2 (hdsA fs[m].1)).length)):=by
 obtain⟨acc,cs,h1,h2,h3,h4⟩:=h.own
 have hb:=h.bel.trans (hX.mono h.bel.size)
 have o1:X.ownsRow w.heap.size 162 4 v n cs:=owns_keep h1 fun k hk=>hX.block k (h1.lt k hk).2
 have hle:=h.le
 have hal:=askH_len ev fs[m].2 (hdsA fs[m].1)
 refine⟨cs,o1,hb.size,hd.one_cell,by omega,fun ad cap w6 ho hg=>?_⟩
 have hb6:Below w.heap.size w w6:=hb.grown hg hb.size fun k hk=>(o1.lt k hk).1
 have hk1:TyKeep 9 X w6:=grown_tyKeep o1 hg (by decide)
 have hk2:TyKeep 74 X w6:=grown_tyKeep o1 hg (by decide)
 have hc:=AskC.append (hd.map hk1 hk2) ((h2.map (.of_below hX) (.of_below hX)).map hk1 hk2)
 have e:(fs.take (m+1)).reverse=fs[m]::(fs.take m).reverse:=by
  rw[List.take_succ_eq_append_getElem hm,List.reverse_append]
  rfl
 rw[e,askA] at h4
 refine⟨fun hs=>?_,fun hs=>?_⟩
 ·rw[hs,if_pos rfl,List.append_nil] at h4
  have hl2:n+(askH ev fs[m].2 (hdsA fs[m].1)).length=(askA ev fs.reverse).length:=by rw[h4,List.length_append,h3]
  rw[hl2] at ho ⊢
  exact⟨ad,cap,_,rfl,(SegAt.of_row (RowAt.of_owns ho)).weaken fun _ _=>trivial,by rw[h4];exact hc,hb6⟩
 ·rw[hs,if_neg (by simp)] at h4
  exact⟨hb6,⟨_,_,ho,hc,by rw[List.length_append,h3],by rw[h4,List.append_assoc]⟩,by omega⟩
theorem AkI.done {w:World}{D:Nat→Prop}{ev:List UInt8}{fs:List (An×Tg)}{wr:World}{ad:Option Addr}{cap n:Nat}(h:AkI w D ev fs wr 0 (.slice ad n cap) n):akP w D (askA ev fs.reverse) (.returned (.slice ad n cap)) wr:=by
 obtain⟨acc,cs,h1,h2,h3,h4⟩:=h.own
 have e:askA ev fs.reverse=acc:=by rw[h4];simp[askA]
 rw[e]
 subst h3
 exact⟨ad,cap,cs,rfl,(SegAt.of_row (RowAt.of_owns h1)).weaken fun _ _=>trivial,h2,h.bel⟩
theorem Ask_any (D:Nat→Prop)(fs:List (An×Tg))(cs:List Value)(ad:Option Addr)(cap:Nat)(evB:ByteArray)(w:World)(hseg:SegAt w TT 150 2 (.slice ad fs.length cap) fs.length cs)(hfc:FndC w fs cs)(hn:∀y∈fs,AnD w D y.1∧shownA y.1=true∧(hdsA y.1).length≤1000)(hl:fs.length≤1001):
  Calls prog 47 #[.slice ad fs.length cap,.string evB] w (akP w D (askA evB.data.toList fs.reverse)):=by
 have S0:Hid (AkI w D evB.data.toList fs w fs.length (.slice none 0 0) 0):=⟨Below.refl _ _,⟨[],[],World.ownsRow_nil _ _ _ _,rfl,rfl,by simp⟩,by omega⟩
 have ST:Hid (∀wr m v n,AkI w D evB.data.toList fs wr (m+1) v n→m<fs.length→∃g o tx bx tv,ad=some ⟨g,o,none⟩∧fs.length≤cap∧cap≤9223372036854775807∧wr.cell? ⟨g,o+m*2,none⟩=some (.iface tx (.pointer (some ⟨bx,0,none⟩)))∧wr.cell? ⟨g,o+m*2+1,none⟩=some tv∧(∃ta tn tc,tv=.slice ta tn tc)∧∃(q:Nat) (st:Bool),q≤1000∧Calls prog 69 #[.agg #[.iface tx (.pointer (some ⟨bx,0,none⟩)),tv],.string evB] wr fun e w'=>∃qa qc ds,e=.returned (.tuple #[.slice qa q qc,.bool st])∧SegAt w' TT 162 4 (.slice qa q qc) q ds∧∃cs,w'.ownsRow w.heap.size 162 4 v n cs∧w.heap.size≤w'.heap.size∧(∀u∈ds,u.oneCell'=true)∧n+q≤1000*(fs.length-m)∧∀ad cap w6,w6.ownsRow w.heap.size 162 4 (.slice ad (n+q) cap) (n+q) (cs++ds)→w'.grownBy w6 v.ownBlock→(st=true→akP w D (askA evB.data.toList fs.reverse) (.returned (.slice ad (n+q) cap)) w6)∧(st=false→AkI w D evB.data.toList fs w6 m (.slice ad (n+q) cap) (n+q))):=fun wr m v n hA hm=>by
  obtain⟨g,o,cap',he,_,hc1,hc2,hcell⟩:=hseg.cell (by omega)
  cases he
  obtain⟨tv,p1,p2,p3⟩:=hfc.at m hm
  obtain⟨n1,n2,n3⟩:=hn fs[m] (List.getElem_mem hm)
  obtain⟨tx,bx,hx⟩:=fs[m].1.val_iface
  unfold maxLen at hc2
  refine⟨g,o,tx,bx,tv,rfl,hc1,by omega,Below.cellv hA.bel (by rw[hcell (m*2) (by omega),p1,hx]),Below.cellv hA.bel (by rw[Nat.add_assoc,hcell (m*2+1) (by omega),p2]),?_,(askH evB.data.toList fs[m].2 (hdsA fs[m].1)).length,stopH evB.data.toList (hdsA fs[m].1),Nat.le_trans (askH_len _ _ _) n3,?_⟩
  ·obtain⟨ta,tc,rfl⟩:=p3.slice
   exact⟨ta,_,tc,rfl⟩
  ·rw[←hx]
   refine (askOne_any D fs[m] tv evB wr (n1.below hA.bel) n2 (p3.below hA.bel) n3).mono fun e w' ⟨qa,qc,ds,h1,h2,h3,h4⟩=>?_
   obtain⟨cs0,r1,r2,r3,r4,r5⟩:=hA.next hm n3 h4 h3
   exact⟨qa,qc,ds,h1,h2,cs0,r1,r2,r3,r4,r5⟩
 have DONE:Hid (∀wr ad n cap,AkI w D evB.data.toList fs wr 0 (.slice ad n cap) n→akP w D (askA evB.data.toList fs.reverse) (.returned (.slice ad n cap)) wr):=fun wr ad n cap hA=>hA.done
 have hli:(fs.length:Int)≤1001:=by omega
 generalize akP w D (askA evB.data.toList fs.reverse)=POST at *
 clear hseg hfc hn
 go_enter func47,ntmps47
 go_wp2_with fail
 go_loopg [5,6] fs.length (fun gh av iv wr=>∃(k n:Nat) (aad:Option Addr) (acap:Nat),gh=k∧iv=.int .i64 ((k:Int)-1)∧k≤fs.length∧av=.slice aad n acap∧Aside (AkI w D evB.data.toList fs wr k av n))
 case atStart=>exact⟨fs.length,0,none,0,rfl,rfl,Nat.le_refl _,rfl,(show AkI w D _ fs _ fs.length _ 0 from S0.out)⟩
 case round =>
  obtain⟨k,n,aad,acap,hgh,rfl,hk,rfl,hA⟩:=hrel
  have hgh:=hgh.symm
  subst hgh
  cases k with
  | zero =>
   have FI:=DONE.out wr _ n _ hA.out
   have FI2:Hid _:=FI
   clear hA FI DONE S0 ST
   go_wp2_with fail
   exact FI2.out
  | succ m =>
   obtain⟨g,o,tx,bx,tv,rfl,hc1,hc2,d0,d1,⟨ta,tn,tc,rfl⟩,q,st,hq,CA⟩:=ST.out wr m _ n hA.out (by omega)
   have hn:=hA.out.le
   have hni:(n:Int)≤2000000:=by omega
   have hqi:(q:Int)≤1000:=by omega
   have hmi:(m:Int)<(fs.length:Int):=by omega
   have e1:(((m+1:Nat):Int)-1)=(m:Int):=by omega
   rw[e1]
   clear hA DONE S0 ST e1
   go_wp2_with fail
   refine CA.mono ?_
   rintro e w2 ⟨qa,qc,ds,rfl,hsg,cs2,own2,hsz2,h1c,hnq,NX⟩
   have NX2:Hid _:=NX
   clear NX CA
   cases st
   ·go_wp2_with (at_builtin;obtain⟨i0,hi,hz0,hz1,hz2⟩:=info_parts Tryz.infoAsked;refine wpList_append_seg rfl _ _ 113 rfl w.heap.size 162 i0 (.agg #[.string ⟨#[]⟩,.nilIface,.bool false,.slice none 0 0]) 4 64 underlying113 hi hz0 hz1 hz2 rfl (by decide) _ _ _ rfl own2 _ q ds rfl hsg h1c (by unfold maxLen;omega) (by omega) hsz2 ?_;intro v3 w3 own3 hg3 hob3;clear hi hz0 hz1 hz2;obtain⟨a3,k3,rfl⟩:=owns_slice own3;have N3:=(NX2.out _ _ w3 own3 hg3).2 (by first | rfl | trivial | simp);have N4:Hid _:=N3;clear N3)
    go_roundg m
    case measure=>omega
    case rel=>exact⟨m,n+q,a3,k3,rfl,by go_num,by omega,rfl,(show AkI w D _ fs _ m _ (n+q) from N4.out)⟩
   ·go_wp2_with (at_builtin;obtain⟨i0,hi,hz0,hz1,hz2⟩:=info_parts Tryz.infoAsked;refine wpList_append_seg rfl _ _ 113 rfl w.heap.size 162 i0 (.agg #[.string ⟨#[]⟩,.nilIface,.bool false,.slice none 0 0]) 4 64 underlying113 hi hz0 hz1 hz2 rfl (by decide) _ _ _ rfl own2 _ q ds rfl hsg h1c (by unfold maxLen;omega) (by omega) hsz2 ?_;intro v3 w3 own3 hg3 hob3;clear hi hz0 hz1 hz2;obtain⟨a3,k3,rfl⟩:=owns_slice own3;have N3:=(NX2.out _ _ w3 own3 hg3).1 (by first | rfl | trivial | simp);have N4:Hid _:=N3;clear N3)
    exact N4.out
def msgA (fns:List Fn):Tg→PV→Option PV
 | [],m=>some m
 | f::r,m=>match reckP fns f [m] with
  | none=>none
  | some m'=>msgA fns r m'
structure MsI (W0:World)(D:Nat→Prop)(fns:List Fn)(ts:Tg)(m':PV)(wr:World)(j:Nat)(m:PV)(x:Value):Prop where
 bel:Below W0.heap.size W0 wr
 vl:VL wr D m x
 fine:Fine m
 eq:msgA fns (ts.drop j) m=some m'
def meP (w:World)(D:Nat→Prop)(m:PV)(e:Ending)(w':World):Prop :=
 ∃tx xx,e=.returned (.tuple #[.iface tx xx,.nilIface])∧VL w' D m (.iface tx xx)∧Below w.heap.size w w'
theorem Message_ok {fns:List Fn}(hP:ProgOk fns)(hU:UniqF fns)(w:World)(Dp D:Nat→Prop)(pa:Option Addr)(pn pc:Nat)(hprog:ProgAt w Dp (.slice pa pn pc) fns)(hG:FltG w)(hm:15≤w.heap.size)(hD:∀g,w.heap.size≤g→D g)(s:ByteArray)(b:Bool)(ts:Tg)(tv x:Value)(m m':PV)(hx:VL w D m x)(hf:Fine m)(ht:SegAt w TT 9 1 tv ts.length (tgV ts))(hl:ts.length≤1000)(he:msgA fns ts m=some m'):
  Calls prog 68 #[.agg #[.string s,x,.bool b,tv],.agg #[.slice pa pn pc]] w (meP w D m'):=by
 obtain⟨tad,tcap,rfl⟩:=ht.slice
 obtain⟨tx,xx,rfl⟩:=hx.iface
 have bW:Below w.heap.size w ((w.alloc (.cells #[.string s,.iface tx xx,.bool b,.slice tad ts.length tcap] 162)).alloc (.cells #[.slice pa pn pc] 57)):=(below1 w _).alloc (by simp) _
 have p0:((w.alloc (.cells #[.string s,.iface tx xx,.bool b,.slice tad ts.length tcap] 162)).alloc (.cells #[.slice pa pn pc] 57)).cell? ⟨w.heap.size+1,0,none⟩=some (.slice pa pn pc):=by
  rw[World.cell?_alloc_at _ _ _ _ (by simp)]
  rfl
 have DONE:Hid (∀wr j m1 tx1 xx1,MsI ((w.alloc (.cells #[.string s,.iface tx xx,.bool b,.slice tad ts.length tcap] 162)).alloc (.cells #[.slice pa pn pc] 57)) D fns ts m' wr j m1 (.iface tx1 xx1)→¬ j<ts.length→meP w D m' (.returned (.tuple #[.iface tx1 xx1,.nilIface])) wr):=fun wr j m1 tx1 xx1 hA hj=>by
  have e:=hA.eq
  rw[List.drop_eq_nil_of_le (by omega),msgA] at e
  cases e
  exact⟨tx1,xx1,rfl,hA.vl,bW.trans (hA.bel.mono bW.size)⟩
 have S0:Hid (MsI ((w.alloc (.cells #[.string s,.iface tx xx,.bool b,.slice tad ts.length tcap] 162)).alloc (.cells #[.slice pa pn pc] 57)) D fns ts m' ((w.alloc (.cells #[.string s,.iface tx xx,.bool b,.slice tad ts.length tcap] 162)).alloc (.cells #[.slice pa pn pc] 57)) 0 m (.iface tx xx)):=⟨Below.refl _ _,hx.below bW,hf,he⟩
 have hpW:=hprog.below bW
 have hGW:=hG.below bW
 have htW:=ht.below bW
 have hsz:=bW.size
 obtain⟨W0,hW0⟩:∃W0,W0=((w.alloc (.cells #[.string s,.iface tx xx,.bool b,.slice tad ts.length tcap] 162)).alloc (.cells #[.slice pa pn pc] 57)):=⟨_,rfl⟩
 rw[←hW0] at DONE S0 hpW hGW htW hsz p0
 have STEP:Hid (∀wr j m1 tx1 xx1,MsI W0 D fns ts m' wr j m1 (.iface tx1 xx1)→j<ts.length→∃gt ot nm,tad=some ⟨gt,ot,none⟩∧ts.length≤tcap∧tcap≤9223372036854775807∧wr.cell? ⟨gt,ot+j,none⟩=some (.string nm)∧wr.cell? ⟨w.heap.size+1,0,none⟩=some (.slice pa pn pc)∧Calls prog 28 #[.agg #[.slice pa pn pc],.string nm,.slice (some ⟨wr.heap.size,0,none⟩) 1 1] (wr.alloc (.cells #[.iface tx1 xx1] 74)) fun e w'=>∃tx2 xx2,e=.returned (.tuple #[.iface tx2 xx2,.nilIface])∧∃m2,MsI W0 D fns ts m' w' (j+1) m2 (.iface tx2 xx2)):=fun wr j m1 tx1 xx1 hA hj=>by
  obtain⟨g,o,cap',he',_,hc1,hc2,hcell⟩:=htW.cell (by omega)
  cases he'
  unfold maxLen at hc2
  refine⟨g,o,bsA ts[j],rfl,hc1,by omega,Below.cellv hA.bel (by rw[hcell j (by omega),tgV,List.getElem?_map,List.getElem?_eq_getElem hj];rfl),Below.cellv hA.bel p0,?_⟩
  have bX:=below1 wr (.cells #[.iface tx1 xx1] 74)
  have hbs:=hA.bel.size
  have bWX:=hA.bel.trans (bX.mono hbs)
  have e:=hA.eq
  rw[List.drop_eq_getElem_cons hj,msgA] at e
  have hDX:∀g,wr.heap.size≤g→D g:=fun g hg=>hD g (by omega)
  cases e2:reckP fns ts[j] [m1] with
  | none=>rw[e2] at e;cases e
  | some m2 =>
   rw[e2] at e
   have hfs:∀v∈[m1],Fine v:=fun v hv=>by simp at hv;rw[hv];exact hA.fine
   refine (named_D hP hU (wr.alloc (.cells #[.iface tx1 xx1] 74)) Dp D (bsA ts[j]) [m1] [.iface tx1 xx1] (.slice (some ⟨wr.heap.size,0,none⟩) 1 1) pa pn pc ((hpW.below hA.bel).below bX) ((hGW.below hA.bel).below bX) (by have:=bX.size;omega) ⟨rfl,Or.inr ⟨wr.heap.size,0,1,#[.iface tx1 xx1],rfl,hDX _ (Nat.le_refl _),heap_alloc_new _ _,Nat.le_refl _,by unfold maxLen;omega,by simp,by simp⟩⟩ (VLs.one (hA.vl.below bX)) hfs (by simp) (fun g hg=>hDX g (by have:=bX.size;omega))).mono fun e w' hp=>?_
   rw[data_bsA,e2] at hp
   obtain⟨hb,⟨v',x',ho,he,hv⟩ | ⟨ho,_⟩⟩:=hp
   ·cases ho
    obtain⟨tx2,xx2,rfl⟩:=hv.iface
    exact⟨tx2,xx2,he,m2,bWX.trans (hb.mono bWX.size),hv,reckP_fine hP hfs e2,by assumption⟩
   ·cases ho
 have c1:W0.cell? ⟨w.heap.size,1,none⟩=some (.iface tx xx):=by
  rw[hW0,World.cell?_alloc_lt _ _ ⟨w.heap.size,1,none⟩ (by simp)]
  simp
 have c3:W0.cell? ⟨w.heap.size,3,none⟩=some (.slice tad ts.length tcap):=by
  rw[hW0,World.cell?_alloc_lt _ _ ⟨w.heap.size,3,none⟩ (by simp)]
  simp
 have HW:Hid (W0=((w.alloc (.cells #[.string s,.iface tx xx,.bool b,.slice tad ts.length tcap] 162)).alloc (.cells #[.slice pa pn pc] 57))):=hW0
 have hli:(ts.length:Int)≤1000:=by omega
 generalize meP w D m'=POST at *
 clear hprog hG hm hD hx hf ht he hpW hGW htW hW0 hP hU bW p0
 go_enter func68,ntmps68
 go_upto_region 1 with fail
 rw[←HW.out]
 clear HW
 go_wp2_with fail
 go_loopg [6,17] ts.length (fun gh mv jv wr=>∃(j:Nat) (m1:PV) (tx1:TypeId) (xx1:Value),gh=ts.length-j∧jv=.int .i64 ((j:Nat):Int)∧j≤ts.length∧mv=.iface tx1 xx1∧Aside (MsI W0 D fns ts m' wr j m1 mv))
 case atStart=>exact⟨0,m,tx,xx,by omega,rfl,Nat.zero_le _,rfl,(show MsI W0 D fns ts m' _ 0 m _ from S0.out)⟩
 case round =>
  obtain⟨j,m1,tx1,xx1,rfl,rfl,hj,rfl,hA⟩:=hrel
  by_cases hlt:j<ts.length
  ·have hji:(j:Int)<(ts.length:Int):=by omega
   obtain⟨gt,ot,nm,rfl,hc1,hc2,d0,d1,CN⟩:=STEP.out wr j m1 tx1 xx1 hA.out hlt
   clear hA STEP DONE S0
   go_wp2_with (go_at_call 28;refine CN.mono ?_;rintro e w2 ⟨tx2,xx2,rfl,m2,hI⟩;have HI:Hid _:=hI;clear hI)
   go_roundg (ts.length-(j+1))
   case measure=>omega
   case rel=>exact⟨j+1,m2,tx2,xx2,rfl,by go_num,by omega,rfl,(show MsI W0 D fns ts m' _ (j+1) m2 _ from HI.out)⟩
  ·have hji:¬ (j:Int)<(ts.length:Int):=by omega
   have FI:=DONE.out wr j m1 tx1 xx1 hA.out hlt
   have FI2:Hid _:=FI
   clear hA FI DONE S0 STEP
   go_wp2_with fail
   exact FI2.out
def msgsA (fns:List Fn):List (Hd×Tg)→Option (List PV)
 | []=>some []
 | a::r=>match msgA fns a.2 a.1.msg with
  | none=>none
  | some m=>(msgsA fns r).map (m::·)
theorem msgA_fine {fns:List Fn}(hP:ProgOk fns):∀{ts:Tg} {m m':PV},Fine m→msgA fns ts m=some m'→Fine m'
 | [],m,m',hf,h=>by rw[msgA] at h;cases h;exact hf
 | f::r,m,m',hf,h=>by
  rw[msgA] at h
  cases e:reckP fns f [m] with
  | none=>rw[e] at h;cases h
  | some m2 =>
   rw[e] at h
   exact msgA_fine hP (reckP_fine hP (fun v hv=>by simp at hv;rw[hv];exact hf) e) h
theorem AskC.at {w:World}{D:Nat→Prop}:∀{l:List (Hd×Tg)} {cs:List Value},AskC w D l cs→∀j (hj:j<l.length),∃(s:ByteArray) (x tv:Value),cs[j*4]?=some (.string s)∧cs[j*4+1]?=some x∧cs[j*4+2]?=some (.bool l[j].1.stops)∧cs[j*4+3]?=some tv∧VL w D l[j].1.msg x∧SegAt w TT 9 1 tv l[j].2.length (tgV l[j].2)
 | [],cs,h,j,hj=>by simp at hj
 | a::r,cs,h,0,hj=>by
  obtain⟨s,x,tv,q,rfl,h2,h3,h4⟩:=h
  exact⟨s,x,tv,rfl,rfl,rfl,rfl,h2,h3⟩
 | a::r,cs,h,j+1,hj=>by
  obtain⟨s,x,tv,q,rfl,h2,h3,h4⟩:=h
  obtain⟨s',x',tv',p1,p2,p3,p4,p5⟩:=AskC.at h4 j (by simpa using hj)
  refine⟨s',x',tv',?_,?_,?_,?_,p5⟩
  ·rw[show (j+1)*4=j*4+1+1+1+1 by omega];simpa using p1
  ·rw[show (j+1)*4+1=j*4+1+1+1+1+1 by omega];simpa using p2
  ·rw[show (j+1)*4+2=j*4+2+1+1+1+1 by omega];simpa using p3
  ·rw[show (j+1)*4+3=j*4+3+1+1+1+1 by omega];simpa using p4
def DX (D:Nat→Prop)(v:Value):Nat→Prop:=fun g=>D g∧v.ownBlock≠some g
structure MgI (w:World)(D:Nat→Prop)(fns:List Fn)(al:List (Hd×Tg))(R:List PV)(wr:World)(j:Nat)(v:Value):Prop where
 bel:Below w.heap.size w wr
 own:∃acc cs,wr.ownsRow w.heap.size 74 1 v j cs∧VLs wr (DX D v) acc cs∧acc.length=j∧(msgsA fns (al.drop j)).map (acc++·)=some R∧∀m∈acc,Fine m
def mgP (w:World)(D:Nat→Prop)(R:List PV)(e:Ending)(w':World):Prop :=
 ∃ad cap cs,e=.returned (.slice ad R.length cap)∧SegAt w' D 74 1 (.slice ad R.length cap) R.length cs∧VLs w' D R cs∧Below w.heap.size w w'∧∀m∈R,Fine m
theorem MgI.done {w:World}{D:Nat→Prop}{fns:List Fn}{al:List (Hd×Tg)}{R:List PV}{wr:World}{j:Nat}{ad:Option Addr}{cap:Nat}(hD:∀g,w.heap.size≤g→D g)(h:MgI w D fns al R wr j (.slice ad j cap))(hj:¬ j<al.length):mgP w D R (.returned (.slice ad j cap)) wr:=by
 obtain⟨acc,cs,h1,h2,h3,h4,h5⟩:=h.own
 rw[List.drop_eq_nil_of_le (by omega),msgsA] at h4
 simp at h4
 subst h4
 subst h3
 exact⟨ad,cap,cs,rfl,(SegAt.of_row (RowAt.of_owns h1)).weaken fun g hg=>hD g hg,h2.weaken fun g hg=>hg.1,h.bel,h5⟩
theorem MgI.next {w:World}{D:Nat→Prop}{fns:List Fn}{al:List (Hd×Tg)}{R:List PV}{wr:World}{j:Nat}{v:Value}(hP:ProgOk fns)(h:MgI w D fns al R wr j v)(hj:j<al.length)(hf:Fine al[j].1.msg):∃m',msgA fns al[j].2 al[j].1.msg=some m'∧∀X tx xx,Below wr.heap.size wr X→VL X (DX D v) m' (.iface tx xx)→∃cs,(X.alloc (.cells #[.iface tx xx] 74)).ownsRow w.heap.size 74 1 v j cs∧w.heap.size≤X.heap.size∧∀v' w6,w6.ownsRow w.heap.size 74 1 v' (j+1) (cs++[.iface tx xx])→(X.alloc (.cells #[.iface tx xx] 74)).grownBy w6 v.ownBlock→(v'.ownBlock=v.ownBlock∨v'.ownBlock=some (X.alloc (.cells #[.iface tx xx] 74)).heap.size)→MgI w D fns al R w6 (j+1) v':=by
 obtain⟨acc,cs,h1,h2,h3,h4,h5⟩:=h.own
 rw[List.drop_eq_getElem_cons hj,msgsA] at h4
 cases e:msgA fns al[j].2 al[j].1.msg with
 | none=>rw[e] at h4;simp at h4
 | some m' =>
  rw[e] at h4
  refine⟨m',rfl,fun X tx xx hX hv=>?_⟩
  have hb:=h.bel.trans (hX.mono h.bel.size)
  have ba:=below1 X (.cells #[.iface tx xx] 74)
  have o1:X.ownsRow w.heap.size 74 1 v j cs:=owns_keep h1 fun k hk=>hX.block k (h1.lt k hk).2
  have o2:=o1.alloc (.cells #[.iface tx xx] 74)
  refine⟨cs,o2,hb.size,fun v' w6 ho hg hob=>?_⟩
  have hS:∀sl n ys,SegAt (X.alloc (.cells #[.iface tx xx] 74)) (DX D v) 74 1 sl n ys→SegAt w6 (DX D v') 74 1 sl n ys:=fun sl n ys hs=>by
   refine (hs.keep (w':=w6) fun q hq hlt=>hg.block q hlt fun e=>hq.2 e.symm).weaken fun q hq=>⟨hq.1.1,?_⟩
   rcases hob with h2 | h2
   ·rw[h2];exact hq.1.2
   ·rw[h2]
    intro e
    have:=hq.2
    simp at e this
    omega
  have hb1:=hb.trans (ba.mono hb.size)
  refine⟨hb1.grown hg (by simp;have:=hb.size;omega) fun k hk=>(o2.lt k hk).1,acc++[m'],_,ho,VLs.append (VLs.one ((hv.below ba).map hS)) (((h2.below hX).below ba).map hS),by rw[List.length_append,h3];rfl,?_,fun m hm=>?_⟩
  ·rw[←h4]
   simp only[Option.map_map]
   congr 1
   funext l
   simp
  ·rw[List.mem_append,List.mem_singleton] at hm
   rcases hm with hm | rfl
   ·exact h5 m hm
   ·exact msgA_fine hP hf e
theorem messages_ok {fns:List Fn}(hP:ProgOk fns)(hU:UniqF fns){w:World}{ab:Nat}{lk:Int}{c:AC}{a:PA}(h:AppAt w ab fns lk c a)(al:List (Hd×Tg))(ad:Option Addr)(cap:Nat)(cs:List Value)(hseg:SegAt w TT 162 4 (.slice ad al.length cap) al.length cs)(hac:AskC w (NQ c.qv a.foe) al cs)(hl:al.length≤2000000)(hf:∀x∈al,Fine x.1.msg∧x.2.length≤1000)(R:List PV)(hR:msgsA fns al=some R):
  Calls prog 46 #[.pointer (some ⟨ab,0,none⟩),.slice ad al.length cap] w (mgP w (NQ c.qv a.foe) R):=by
 have hD:=NQ.new h.st
 have S0:Hid (MgI w (NQ c.qv a.foe) fns al R w 0 (.slice none 0 0)):=⟨Below.refl _ _,[],[],World.ownsRow_nil _ _ _ _,by rw[VLs],rfl,by simp[hR],fun m hm=>by simp at hm⟩
 have DONE:Hid (∀wr j ad cap,MgI w (NQ c.qv a.foe) fns al R wr j (.slice ad j cap)→¬ j<al.length→mgP w (NQ c.qv a.foe) R (.returned (.slice ad j cap)) wr):=fun wr j ad cap hA hj=>hA.done hD hj
 have STEP:Hid (∀wr j v,MgI w (NQ c.qv a.foe) fns al R wr j v→j<al.length→∃g o s tx yx b ta tn tc,ad=some ⟨g,o,none⟩∧al.length≤cap∧cap≤9223372036854775807∧wr.cell? ⟨g,o+j*4,none⟩=some (.string s)∧wr.cell? ⟨g,o+j*4+1,none⟩=some (.iface tx yx)∧wr.cell? ⟨g,o+j*4+2,none⟩=some (.bool b)∧wr.cell? ⟨g,o+j*4+3,none⟩=some (.slice ta tn tc)∧wr.cell? ⟨ab,2,none⟩=some (.slice c.pa c.pn c.pc)∧∀X,Below wr.heap.size wr X→Calls prog 68 #[.agg #[.string s,.iface tx yx,.bool b,.slice ta tn tc],.agg #[.slice c.pa c.pn c.pc]] X fun e w'=>∃tx2 xx2,e=.returned (.tuple #[.iface tx2 xx2,.nilIface])∧Below wr.heap.size wr w'∧∃cs,(w'.alloc (.cells #[.iface tx2 xx2] 74)).ownsRow w.heap.size 74 1 v j cs∧w.heap.size≤w'.heap.size∧∀v' w6,w6.ownsRow w.heap.size 74 1 v' (j+1) (cs++[.iface tx2 xx2])→(w'.alloc (.cells #[.iface tx2 xx2] 74)).grownBy w6 v.ownBlock→(v'.ownBlock=v.ownBlock∨v'.ownBlock=some (w'.alloc (.cells #[.iface tx2 xx2] 74)).heap.size)→MgI w (NQ c.qv a.foe) fns al R w6 (j+1) v'):=fun wr j v hA hj=>by
  obtain⟨g,o,cap',he',_,hc1,hc2,hcell⟩:=hseg.cell (by omega)
  cases he'
  unfold maxLen at hc2
  obtain⟨s,x,tv,p1,p2,p3,p4,p5,p6⟩:=hac.at j hj
  obtain⟨tx,yx,rfl⟩:=p5.iface
  obtain⟨ta,tc,rfl⟩:=p6.slice
  obtain⟨f1,f2⟩:=hf al[j] (List.getElem_mem hj)
  obtain⟨m',e1,NX⟩:=hA.next hP hj f1
  have hA2:=h.below hA.bel
  refine⟨g,o,s,tx,yx,_,ta,_,tc,rfl,hc1,by omega,Below.cellv hA.bel (by rw[hcell (j*4) (by omega),p1]),Below.cellv hA.bel (by rw[Nat.add_assoc,hcell (j*4+1) (by omega),p2]),Below.cellv hA.bel (by rw[Nat.add_assoc,hcell (j*4+2) (by omega),p3]),Below.cellv hA.bel (by rw[Nat.add_assoc,hcell (j*4+3) (by omega),p4]),hA2.cell 2,fun X hX=>?_⟩
  have bX:=hA.bel.trans (hX.mono hA.bel.size)
  have hAX:=h.below bX
  have hbs:=bX.size
  have hlt:=h.lt
  have hm15:=h.st.hm
  obtain⟨acc,cs0,o1,_⟩:=hA.own
  have hDX:∀g,X.heap.size≤g→DX (NQ c.qv a.foe) v g:=fun g hg=>⟨hD g (by omega),fun e=>by have:=(o1.lt g e).2;have:=hX.size;omega⟩
  have hvX:VL X (DX (NQ c.qv a.foe) v) al[j].1.msg (.iface tx yx):=p5.map fun sl n ys hs=>by
   refine ((hs.keep (w':=X) fun q _ hq=>bX.block q hq)).weaken fun q hq=>⟨hq.1,fun e=>?_⟩
   have:=(o1.lt q e).1
   omega
  refine (Message_ok hP hU X (PD ab a) (DX (NQ c.qv a.foe) v) c.pa c.pn c.pc hAX.st.prog hAX.st.flt (by omega) hDX s _ al[j].2 _ _ al[j].1.msg m' hvX f1 (p6.below bX) f2 e1).mono fun e w' ⟨tx2,xx2,r1,r2,r3⟩=>?_
  have hb':=hX.trans (r3.mono hX.size)
  exact⟨tx2,xx2,r1,hb',NX w' tx2 xx2 hb' r2⟩
 have hli:(al.length:Int)≤2000000:=by omega
 have habl:Hid (∀wr j v,MgI w (NQ c.qv a.foe) fns al R wr j v→ab<wr.heap.size):=fun wr j v hA=>by have:=hA.bel.size;have:=h.lt;omega
 generalize mgP w (NQ c.qv a.foe) R=POST at *
 clear h hseg hac hf hR hD
 go_enter func46,ntmps46
 go_wp2_with fail
 go_loopg [5,12] al.length (fun gh mv jv wr=>∃(j:Nat) (mad:Option Addr) (mcap:Nat),gh=al.length-j∧jv=.int .i64 ((j:Nat):Int)∧j≤al.length∧mv=.slice mad j mcap∧Aside (MgI w (NQ c.qv a.foe) fns al R wr j mv))
 case atStart=>exact⟨0,none,0,by omega,rfl,Nat.zero_le _,rfl,(show MgI w (NQ c.qv a.foe) fns al R _ 0 _ from S0.out)⟩
 case round =>
  obtain⟨j,mad,mcap,rfl,rfl,hj,rfl,hA⟩:=hrel
  by_cases hlt:j<al.length
  ·have hji:(j:Int)<(al.length:Int):=by omega
   have hj2:(j:Int)≤2000000:=by omega
   obtain⟨g,o,s,tx,yx,b,ta,tn,tc,rfl,hc1,hc2,d0,d1,d2,d3,d4,CM0⟩:=STEP.out wr j _ hA.out hlt
   have hablt:=habl.out wr j _ hA.out
   have CM:Hid _:=CM0
   have bA:=below1 wr (.cells #[.string s,.iface tx yx,.bool b,.slice ta tn tc] 162)
   have CM1:=CM.out _ bA
   have CM2:=CM.out _ bA.drew
   have C4:Hid (∀X,Below wr.heap.size wr X→X.cell? ⟨ab,2,none⟩=some (.slice c.pa c.pn c.pc)):=fun X hX=>Below.cellv hX d4
   clear hA STEP DONE S0 CM0 CM habl
   have q0:(wr.alloc (.cells #[.string s,.iface tx yx,.bool b,.slice ta tn tc] 162)).heap[wr.heap.size]?=some (.cells #[.string s,.iface tx yx,.bool b,.slice ta tn tc] 162):=heap_alloc_new _ _
   go_wp2_with fail
   have K4:=C4.out _ bA
   have r0:(wr.alloc (.cells #[.string s,.iface tx yx,.bool b,.slice ta tn tc] 162)).cell? ⟨wr.heap.size,0,none⟩=some (.string s):=by unfold World.cell?;rw[q0];rfl
   have r1:(wr.alloc (.cells #[.string s,.iface tx yx,.bool b,.slice ta tn tc] 162)).cell? ⟨wr.heap.size,1,none⟩=some (.iface tx yx):=by unfold World.cell?;rw[q0];rfl
   have r2:(wr.alloc (.cells #[.string s,.iface tx yx,.bool b,.slice ta tn tc] 162)).cell? ⟨wr.heap.size,2,none⟩=some (.bool b):=by unfold World.cell?;rw[q0];rfl
   have r3:(wr.alloc (.cells #[.string s,.iface tx yx,.bool b,.slice ta tn tc] 162)).cell? ⟨wr.heap.size,3,none⟩=some (.slice ta tn tc):=by unfold World.cell?;rw[q0];rfl
   clear q0 bA C4
   generalize (wr.alloc (.cells #[.string s,.iface tx yx,.bool b,.slice ta tn tc] 162))=X1 at *
   go_region_with (go_at_call 68;(first | refine CM1.mono ?_ | refine CM2.mono ?_);rintro e w3 ⟨tx2,xx2,rfl,hb3,cs3,own3,hs3,NX⟩;have NX2:Hid _:=NX;clear NX)
   all_goals
    clear CM1 CM2 K4 r0 r1 r2 r3
    go_wp2_with (at_builtin;obtain⟨i0,hi,hz0,hz1,hz2⟩:=info_parts Tryz.infoVVal;refine wpList_append_own_at _ rfl _ _ 70 rfl w.heap.size 74 i0 .nilIface 1 16 underlying70 hi hz0 hz1 hz2 rfl (by decide) _ _ _ rfl own3 ⟨w3.heap.size,0,none⟩ 1 1 [.iface tx2 xx2] rfl rfl (World.news_of_block (heap_alloc_new _ _)) (fun x hx=>by simp at hx;subst hx;rfl) (by unfold maxLen;omega) (by omega) (by simp;omega) ?_;intro v6 w6 own6 hg6 hn6 hob6;clear hi hz0 hz1 hz2)
    have N6:=NX2.out v6 w6 own6 hg6 hob6
    obtain⟨a6,k6,rfl⟩:=owns_slice own6
    go_roundg (al.length-(j+1))
    case measure=>omega
    case rel=>exact⟨j+1,a6,k6,rfl,by go_num,by omega,rfl,(show MgI w (NQ c.qv a.foe) fns al R _ (j+1) _ from N6)⟩
  ·have hji:¬ (j:Int)<(al.length:Int):=by omega
   have FI:=DONE.out wr j _ _ hA.out hlt
   have FI2:Hid _:=FI
   clear hA FI DONE S0 STEP
   go_wp2_with fail
   exact FI2.out
end Go.Proofs.YtifhgjpglicjbaaGreatDoor
