/-
  Frames, the program: a tree as it is told.
-/
import Derived.Test.YtifhgjpglicjbaaGreatDoorFsC
import Derived.Deep.DeepCutAuto
set_option maxHeartbeats 4000000
set_option maxRecDepth 8000
namespace Go.Proofs.YtifhgjpglicjbaaGreatDoor
open Go.Proofs.Tryz
open Go.RowKit Go.Lib Go.Shelf
attribute [local go_sem ↓] Go.wp_at_zero Go.wp_at_succ
mutual
def NmA (B:Nat):An→Prop
 | .txt _ m _=>m.num≤B
 | .el _ m _ _ _ ks=>m.num≤B∧NmL B ks
 | .ky _ m _ _ _ _ ks=>m.num≤B∧NmL B ks
 | .tg _ _ n=>NmA B n
 | .lz _ _ _ n=>NmA B n
def NmL (B:Nat):List An→Prop
 | []=>True
 | n::r=>NmA B n∧NmL B r
end
theorem NmL.at {B:Nat}:∀{l:List An},NmL B l→∀j (hj:j<l.length),NmA B l[j]
 | [],_,j,hj=>by simp at hj
 | n::r,h,0,_=>by rw[NmL] at h;exact h.1
 | n::r,h,j+1,hj=>by rw[NmL] at h;exact h.2.at j (by simpa using hj)
theorem treeT_bare:∀n:An,treeT (er (bareA n))=treeT (er n)
 | .txt _ _ _=>rfl
 | .el _ _ _ _ _ _=>rfl
 | .ky _ _ _ _ _ _ _=>rfl
 | .tg _ _ n=>by rw[bareA,treeT_bare n,er,treeT]
 | .lz _ _ _ n=>by rw[bareA,treeT_bare n,er,treeT]
theorem nmA_bare {B:Nat}:∀{n:An},NmA B n→NmA B (bareA n)
 | .txt _ _ _,h=>h
 | .el _ _ _ _ _ _,h=>h
 | .ky _ _ _ _ _ _ _,h=>h
 | .tg _ _ n,h=>by rw[NmA] at h;rw[bareA];exact nmA_bare h
 | .lz _ _ _ n,h=>by rw[NmA] at h;rw[bareA];exact nmA_bare h
theorem attrT_snoc (l:List (List UInt8×List UInt8))(n t:List UInt8):attrT (l++[(n,t)])=attrT l++(32::(n++[61,39]++t++[39])):=by
 induction l with
 | nil=>simp[attrT]
 | cons a r ih=>obtain⟨x,y⟩:=a;simp[attrT,ih]
theorem treesT_append (a b:List Nd):treesT (a++b)=treesT a++treesT b:=by
 induction a with
 | nil=>simp[treesT]
 | cons x r ih=>simp[treesT,ih]
theorem erL_map:∀l:List An,erL l=l.map er
 | []=>rfl
 | n::r=>by rw[erL,erL_map r];rfl
theorem Bld.below {B b:Nat}{l:List UInt8}{w w':World}(h:Bld B b l w)(hb:Below w.heap.size w w'):Bld B b l w':=by
 have one:∀p,BuilderAtF 132 5 B b p (Lib.byteCells l) w→BuilderAtF 132 5 B b p (Lib.byteCells l) w':=fun p hp=>by
  obtain⟨h1,v,h2,h3,h4⟩:=hp
  have hlt:b<w.heap.size:=(Array.getElem?_eq_some_iff.1 h2).1
  refine⟨h1,v,by rw[hb.block b hlt];exact h2,?_,h4⟩
  exact h3.kept (row:=none) ⟨hb.os,hb.tape,hb.output,hb.size,fun q hq _=>hb.block q hq⟩ (Classical.em _)
 rcases h with h | h
 ·exact Or.inl (one _ h)
 ·exact Or.inr (one _ h)
theorem treeT_pos:∀n:Nd,1≤(treeT n).length
 | .txt m s=>by simp[treeT];omega
 | .el m t ats hs ks=>by simp[treeT]
 | .ky m t ats hs keys ks=>by simp[treeT]
 | .tg f n=>by rw[treeT];exact treeT_pos n
 | .lz f args n=>by rw[treeT];exact treeT_pos n
theorem trees_len:∀l:List An,l.length≤(treesT (erL l)).length
 | []=>by simp
 | n::r=>by
  have h1:=treeT_pos (er n)
  have h2:=trees_len r
  rw[erL,treesT,List.length_append,List.length_cons]
  omega
def bwP (w0:World)(b:Nat)(l:List UInt8)(e:Ending)(w':World):Prop:=e=.returned (.tuple #[])∧Bld w0.heap.size b l w'∧Below w0.heap.size w0 w'
def WrDo (w0:World)(b B f:Nat):Prop:=∀(n:An) (w:World) (l:List UInt8),sizeA n≤f→AnAt w0 n→NmA B n→Bld w0.heap.size b l w→Below w0.heap.size w0 w→l.length+(treeT (er n)).length≤900000 →
 Calls prog 61 #[.pointer (some ⟨b,0,none⟩),n.val] w (bwP w0 b (l++treeT (er n)))
structure EV (w:World)(p:Nat)(m:Mk)(t:List UInt8)(ats:List (List UInt8×List UInt8))(ks:List An)(av nv:Value):Prop where
 c0:w.cell? ⟨p,0,none⟩=some (mkN m)
 c1:w.cell? ⟨p,1,none⟩=some (mkW m)
 c2:w.cell? ⟨p,2,none⟩=some (mkS m)
 c3:w.cell? ⟨p,3,none⟩=some (.string (bsA t))
 c4:w.cell? ⟨p,4,none⟩=some av
 c6:w.cell? ⟨p,6,none⟩=some nv
 ra:SegAt w TT 270 2 av ats.length (atA ats)
 rn:SegAt w TT 90 1 nv ks.length (ks.map An.val)
theorem EV.below {w w':World}{p:Nat}{m:Mk}{t:List UInt8}{ats:List (List UInt8×List UInt8)}{ks:List An}{av nv:Value}(h:EV w p m t ats ks av nv)(hb:Below w.heap.size w w'):EV w' p m t ats ks av nv :=
 ⟨Below.cellv hb h.c0,Below.cellv hb h.c1,Below.cellv hb h.c2,Below.cellv hb h.c3,Below.cellv hb h.c4,Below.cellv hb h.c6,h.ra.below hb,h.rn.below hb⟩
theorem atA_at:∀(l:List (List UInt8×List UInt8)) (j:Nat) (hj:j<l.length),(atA l)[j*2]?=some (.string (bsA l[j].1))∧(atA l)[j*2+1]?=some (.string (bsA l[j].2))
 | [],j,hj=>by simp at hj
 |(a,c)::r,0,_=>by simp[atA]
 |(a,c)::r,j+1,hj=>by
  have:=atA_at r j (by simpa using hj)
  rw[show (j+1)*2=j*2+1+1 by omega,show j*2+1+1+1=(j*2+1)+1+1 by omega]
  simpa[atA] using this
theorem ws_any {w0 w:World}{b:Nat}{l:List UInt8}(hB:Bld w0.heap.size b l w)(hb:Below w0.heap.size w0 w)(s:ByteArray)(u:List UInt8)(hs:s.data.toList=u)(hl:l.length+u.length≤1000000):
  Calls prog 77 #[.pointer (some ⟨b,0,none⟩),.string s] w fun e w'=>(∃y,e=.returned (.tuple #[.int .i64 y,.nilIface]))∧Bld w0.heap.size b (l++u) w'∧Below w0.heap.size w0 w':=by
 subst hs
 refine (writeString_any w0.heap.size b l s w hB (by have:=tl_size s;omega) hb.size).mono fun e w' ⟨h1,h2,h3,_⟩=>⟨⟨_,h1⟩,h2,hb.trans h3⟩
theorem writeElement_of {w0:World}{b B f:Nat}(IH:WrDo w0 b B f)(ht:Pow10 w0)(hB9:B≤1000000000)(p:Nat)(m:Mk)(t:List UInt8)(ats:List (List UInt8×List UInt8))(ks:List An)(av nv:Value)(w:World)(l:List UInt8)(hE:EV w0 p m t ats ks av nv)(hks:AnsAt w0 ks)(hsz:sizeL ks≤f)(hmB:m.num≤B)(hkB:NmL B ks)(hB:Bld w0.heap.size b l w)(hb:Below w0.heap.size w0 w)
  (hl:l.length+(60::(t++markT m++attrT ats++[62]++treesT (erL ks)++[60,47]++t++[62])).length≤900000) :
  Calls prog 91 #[.pointer (some ⟨b,0,none⟩),.pointer (some ⟨p,0,none⟩)] w (bwP w0 b (l++(60::(t++markT m++attrT ats++[62]++treesT (erL ks)++[60,47]++t++[62])))):=by
 have hE1:=hE.below (hb.mono (Nat.le_refl _))
 obtain⟨c0,c1,c2,c3,c4,c6,ra,rn⟩:=hE1
 simp only[List.length_cons,List.length_append,List.length_nil] at hl
 have hmt:(m.note.getD []).length≤(markT m).length:=by
  unfold markT
  cases m.note<;>simp
  omega
 have CMX:Hid (∀X,Below w.heap.size w X→Calls prog 89 #[.agg #[mkN m,mkW m,mkS m]] X fun e w'=>e=.returned (.string (bsA (markT m)))∧Below w.heap.size w w'):=fun X hX=>(mark_any m X (by omega) (by omega) (ht.below (hb.trans (hX.mono hb.size)))).mono fun e w' h=>⟨h.1,hX.trans (h.2.mono hX.size)⟩
 have CM:=CMX.out w (Below.refl _ _)
 have CMd:=CMX.out w.drew (Below.refl _ _).drew
 simp only[mkN,mkW,mkS] at c0 c1 c2 CM CMd
 have st:(bsA t).size≤900000:=by rw[bsA_size];omega
 have sm:(bsA (markT m)).size≤900000:=by rw[bsA_size];omega
 obtain⟨aa,ac,rfl⟩:=ra.slice
 obtain⟨na,nc,rfl⟩:=rn.slice
 have TX:Hid ((bsA t).data.toList=t∧(bsA (markT m)).data.toList=markT m):=⟨data_bsA _,data_bsA _⟩
 have W1:Hid (∀X (s:ByteArray),Below w.heap.size w X→s.data.toList=60::(t++markT m)→Calls prog 77 #[.pointer (some ⟨b,0,none⟩),.string s] X fun e w'=>(∃y,e=.returned (.tuple #[.int .i64 y,.nilIface]))∧Bld w0.heap.size b (l++(60::(t++markT m))) w'∧Below w0.heap.size w0 w'):=fun X s hX hs=>ws_any (hB.below hX) (hb.trans (hX.mono hb.size)) s _ hs (by simp;omega)
 go_enter func91,ntmps91
 generalize bsA t=tb at *
 generalize bsA (markT m)=mb at *
 go_upto_region 0 with fail
 go_cut [] (fun wx=>Bld w0.heap.size b (l++(60::(t++markT m))) wx∧Below w0.heap.size w0 wx)
 case first =>
  go_region_with (first
   |(go_at_call 89;(first | refine CM.mono ?_ | refine CMd.mono ?_);rintro e w1 ⟨rfl,hb1⟩;have c3':=Below.cellv hb1 c3)
   |(go_at_call 77;refine (W1.out _ _ hb1 ?_).mono ?_;(simp[TX.out.1,TX.out.2]);rintro e w2 ⟨⟨y2,rfl⟩,hB2,hb2⟩))
  all_goals (go_wp2_with fail)
  all_goals go_meet
  all_goals exact⟨hB2,hb2⟩
 case rest =>
  obtain⟨hB2,hb2⟩:=hcut
  clear CM CMd CMX W1 c0 c1 c2
  obtain⟨_,_,_,c3,c4,c6,ra,rn⟩:=hE.below (hb2.mono (Nat.le_refl _))
  have CELL:Hid (∀X,Below w0.heap.size w0 X→∀j (hj:j<ats.length),∃g o,aa=some ⟨g,o,none⟩∧ats.length≤ac∧ac≤9223372036854775807∧X.cell? ⟨g,o+j*2,none⟩=some (.string (bsA ats[j].1))∧X.cell? ⟨g,o+j*2+1,none⟩=some (.string (bsA ats[j].2))):=fun X hX j hj=>by
   obtain⟨g,o,cp,hcap,_,h1,h2,hcell⟩:=(hE.ra.below (hX.mono (Nat.le_refl _))).cell (by omega)
   cases hcap
   unfold maxLen at h2
   have ha:=atA_at ats j hj
   refine⟨g,o,rfl,h1,by omega,(hcell (j*2) (by omega)).trans ha.1,?_⟩
   rw[Nat.add_assoc]
   exact (hcell (j*2+1) (by omega)).trans ha.2
  have ALEN:Hid (∀j (hj:j<ats.length),(attrT (ats.take (j+1))).length≤(attrT ats).length∧attrT (ats.take (j+1))=attrT (ats.take j)++(32::(ats[j].1++[61,39]++ats[j].2++[39]))):=fun j hj=>by
   refine⟨?_,by rw[List.take_succ_eq_append_getElem hj];exact attrT_snoc _ _ _⟩
   conv=>rhs;rw[←List.take_append_drop (j+1) ats]
   generalize ats.take (j+1)=A
   generalize ats.drop (j+1)=C
   induction A with
   | nil=>simp[attrT]
   | cons x r ih=>obtain⟨x1,x2⟩:=x;simp[attrT];omega
  clear c3 c4 c6 ra rn
  obtain⟨_,_,_,c3,c4,c6,ra,rn⟩:=hE.below (hb2.mono (Nat.le_refl _))
  have hal:ats.length≤900000:=by
   have:ats.length≤(attrT ats).length:=by
    generalize ats=A
    induction A with
    | nil=>simp
    | cons x r ih=>obtain⟨x1,x2⟩:=x;simp[attrT];omega
   omega
  have hali:((ats.length:Nat):Int)≤900000:=by omega
  clear ra rn
  go_wp2_with fail
  go_loopg [26] ats.length (fun gh iv wr=>∃j:Nat,gh=ats.length-j∧iv=.int .i64 ((j:Nat):Int)∧j≤ats.length∧Aside (Bld w0.heap.size b (l++(60::(t++markT m))++attrT (ats.take j)) wr∧Below w0.heap.size w0 wr))
  case atStart=>exact⟨0,by omega,rfl,Nat.zero_le _,(show _∧_ from ⟨by simpa[attrT] using hB2,hb2⟩)⟩
  case round =>
   obtain⟨j,rfl,rfl,hj,hA⟩:=hrel
   by_cases hjl:j<ats.length
   ·obtain⟨g9,o9,rfl,hc1,hc2,e0,e1⟩:=CELL.out wr hA.out.2 j hjl
    have hji:(j:Int)<((ats.length:Nat):Int):=by omega
    obtain⟨hal1,hal2⟩:=ALEN.out j hjl
    have hlen3:(attrT (ats.take (j+1))).length=(attrT (ats.take j)).length+(ats[j].1.length+ats[j].2.length+4):=by rw[hal2];simp;omega
    have bA:Below wr.heap.size wr (wr.alloc (.cells #[.string (bsA ats[j].1),.string (bsA ats[j].2)] 270)):=(Below.refl _ _).alloc (Nat.le_refl _) _
    have q0:(wr.alloc (.cells #[.string (bsA ats[j].1),.string (bsA ats[j].2)] 270)).heap[wr.heap.size]?=some (.cells #[.string (bsA ats[j].1),.string (bsA ats[j].2)] 270):=heap_alloc_new _ _
    have hX0:Bld w0.heap.size b (l++(60::(t++markT m))++attrT (ats.take j)) (wr.alloc (.cells #[.string (bsA ats[j].1),.string (bsA ats[j].2)] 270))∧Below w0.heap.size w0 (wr.alloc (.cells #[.string (bsA ats[j].1),.string (bsA ats[j].2)] 270)):=⟨hA.out.1.alloc _,hA.out.2.trans (bA.mono hA.out.2.size)⟩
    have s1:(bsA ats[j].1).size≤900000:=by rw[bsA_size];omega
    have s2:(bsA (39::(ats[j].2++[39]))).size≤900002:=by rw[bsA_size];simp;omega
    go_wp2_with fail
    generalize wr.alloc (.cells #[.string (bsA ats[j].1),.string (bsA ats[j].2)] 270)=X0 at *
    have CQX:Hid (∀X,Below X0.heap.size X0 X→Calls prog 90 #[.string (bsA ats[j].2)] X fun e w'=>e=.returned (.string (bsA (39::(ats[j].2++[39]))))∧Below X0.heap.size X0 w'):=fun X hX=>by
     have:=quote_any (bsA ats[j].2) X (by rw[bsA_size];omega) (ht.below ((hX0.2.trans (hX.mono hX0.2.size)).mono (Nat.le_refl _)))
     rw[data_bsA] at this
     exact this.mono fun e w' h=>⟨h.1,hX.trans (h.2.mono hX.size)⟩
    have WA:Hid (∀X (s:ByteArray),Below X0.heap.size X0 X→s.data.toList=32::(ats[j].1++[61,39]++ats[j].2++[39])→Calls prog 77 #[.pointer (some ⟨b,0,none⟩),.string s] X fun e w'=>(∃y,e=.returned (.tuple #[.int .i64 y,.nilIface]))∧Bld w0.heap.size b (l++(60::(t++markT m))++attrT (ats.take (j+1))) w'∧Below w0.heap.size w0 w'):=fun X s hX hs=>by
     refine (ws_any (hX0.1.below hX) (hX0.2.trans (hX.mono hX0.2.size)) s _ hs (by simp;omega)).mono fun e w' h=>⟨h.1,?_,h.2.2⟩
     rw[hal2,←List.append_assoc]
     exact h.2.1
    have CE:Hid (∀X,Below X0.heap.size X0 X→X.cell? ⟨wr.heap.size,0,none⟩=some (.string (bsA ats[j].1))∧X.cell? ⟨wr.heap.size,1,none⟩=some (.string (bsA ats[j].2))):=fun X hX=>by
     have:=(hX.block _ (block_lt q0)).trans q0
     exact⟨by unfold World.cell?;rw[this];rfl,by unfold World.cell?;rw[this];rfl⟩
    obtain⟨x0,x1⟩:=CE.out X0 (Below.refl _ _)
    have CQ0:=CQX.out X0 (Below.refl _ _)
    have CQ1:=CQX.out X0.drew (Below.refl _ _).drew
    have TL:Hid ((bsA ats[j].1).data.toList=ats[j].1∧(bsA (39::(ats[j].2++[39]))).data.toList=39::(ats[j].2++[39])):=⟨data_bsA _,data_bsA _⟩
    generalize bsA (39::(ats[j].2++[39]))=bq at *
    generalize bsA ats[j].1=bn at *
    generalize bsA ats[j].2=bt at *
    clear CQX hA hX0 q0 bA e0 e1 ALEN CELL
    go_region_with (first
     |(go_at_call 90;(first | refine CQ0.mono ?_ | refine CQ1.mono ?_);rintro e w3 ⟨rfl,hb3⟩;obtain⟨x0',x1'⟩:=CE.out w3 hb3)
     |(go_at_call 77;refine (WA.out _ _ hb3 ?_).mono ?_;(simp[TL.out.1,TL.out.2]);rintro e w4 ⟨⟨y4,rfl⟩,hB4,hb4⟩))
    all_goals (go_wp2_with fail)
    all_goals (go_roundg (ats.length-(j+1)))
    case measure=>omega
    case rel=>exact⟨j+1,rfl,by go_num,by omega,(show _∧_ from ⟨hB4,hb4⟩)⟩
    all_goals first | omega | exact⟨j+1,rfl,by go_num,by omega,(show _∧_ from ⟨hB4,hb4⟩)⟩
   ·have hjj:j=ats.length:=by omega
    have hji:¬ (j:Int)<((ats.length:Nat):Int):=by omega
    subst hjj
    obtain⟨_,_,_,c3,c4,c6,ra,rn⟩:=hE.below (hA.out.2.mono (Nat.le_refl _))
    have hA1:=hA.out.1
    rw[List.take_length] at hA1
    have W3:=ws_any hA1 hA.out.2 ⟨#[62]⟩ [62] rfl (by simp;omega)
    clear ra rn hA1
    go_wp2_with (go_at_call 77;refine W3.mono ?_;rintro e w3 ⟨⟨y3,rfl⟩,hB3,hb3⟩;clear W3;obtain⟨_,_,_,d3,d4,d6,_,_⟩:=hE.below (hb3.mono (Nat.le_refl _)))
    have CELL2:Hid (∀X,Below w0.heap.size w0 X→∀j (hj:j<ks.length),∃g o tn bn,na=some ⟨g,o,none⟩∧ks.length≤nc∧nc≤9223372036854775807∧X.cell? ⟨g,o+j,none⟩=some (.iface tn (.pointer (some ⟨bn,0,none⟩)))∧ks[j].val=.iface tn (.pointer (some ⟨bn,0,none⟩))):=fun X hX j hj=>by
     obtain⟨g,o,h1,h2,h3,h4⟩:=seg_at (hE.rn.below (hX.mono (Nat.le_refl _))) hj
     obtain⟨tn,bn,hn⟩:=ks[j].val_iface
     unfold maxLen at h3
     refine⟨g,o,tn,bn,h1,h2,by omega,?_,hn⟩
     rw[h4,List.getElem?_map,List.getElem?_eq_getElem hj,←hn]
     rfl
    have TLEN:Hid (∀j (hj:j<ks.length),treesT (erL (ks.take (j+1)))=treesT (erL (ks.take j))++treeT (er ks[j])∧(treesT (erL (ks.take (j+1)))).length≤(treesT (erL ks)).length):=fun j hj=>by
     have e1:treesT (erL (ks.take (j+1)))=treesT (erL (ks.take j))++treeT (er ks[j]):=by
      rw[List.take_succ_eq_append_getElem hj,erL_map,erL_map,List.map_append,treesT_append]
      simp[treesT]
     refine⟨e1,?_⟩
     conv=>rhs;rw[←List.take_append_drop (j+1) ks]
     rw[erL_map (_++_),List.map_append,treesT_append,List.length_append,erL_map]
     omega
    have WK:Hid (∀X j (hj:j<ks.length),Bld w0.heap.size b (l++(60::(t++markT m))++attrT ats++[62]++treesT (erL (ks.take j))) X→Below w0.heap.size w0 X→Calls prog 61 #[.pointer (some ⟨b,0,none⟩),ks[j].val] X (bwP w0 b (l++(60::(t++markT m))++attrT ats++[62]++treesT (erL (ks.take (j+1)))))):=fun X j hj h1 h2=>by
     obtain⟨g1,g2⟩:=TLEN.out j hj
     have z1:=sizeL_take ks j hj
     have z2:=sizeL_take_le ks (j+1)
     have g3:=congrArg List.length g1
     rw[List.length_append] at g3
     have:=IH ks[j] X _ (by omega) (hks.at j hj) (hkB.at j hj) h1 h2 (by simp;omega)
     rw[List.append_assoc,←g1] at this
     exact this
    have WE:Hid (∀X (s:ByteArray),Bld w0.heap.size b (l++(60::(t++markT m))++attrT ats++[62]++treesT (erL ks)) X→Below w0.heap.size w0 X→s.data.toList=[60,47]++t++[62]→Calls prog 77 #[.pointer (some ⟨b,0,none⟩),.string s] X fun e w'=>(∃y,e=.returned (.tuple #[.int .i64 y,.nilIface]))∧Bld w0.heap.size b (l++(60::(t++markT m++attrT ats++[62]++treesT (erL ks)++[60,47]++t++[62]))) w'∧Below w0.heap.size w0 w'):=fun X s h1 h2 hs=>by
     refine (ws_any h1 h2 s _ hs (by simp;omega)).mono fun e w' h=>⟨h.1,?_,h.2.2⟩
     simpa[List.append_assoc] using h.2.1
    have ST2:Hid (Bld w0.heap.size b (l++(60::(t++markT m))++attrT ats++[62]++treesT (erL (ks.take 0))) w3∧Below w0.heap.size w0 w3):=⟨by simpa[erL,treesT] using hB3,hb3⟩
    have D3:Hid (∀X,Below w0.heap.size w0 X→X.cell? ⟨p,3,none⟩=some (.string (bsA t))):=fun X hX=>(hE.below (hX.mono (Nat.le_refl _))).c3
    have T3:Hid ((bsA t).data.toList=t):=data_bsA t
    have st2:(bsA t).size≤900000:=by rw[bsA_size];omega
    have hkl:ks.length≤900000:=by
     have:=trees_len ks
     omega
    have hkli:((ks.length:Nat):Int)≤900000:=by omega
    generalize bsA t=tb2 at *
    clear hE hks IH CELL ALEN hA hB2 hb2 hB3 hb3 hB hb ht d4 d6 c3 c4 c6 hkB TX
    go_loopg [48] ks.length (fun gh iv wr=>∃j:Nat,gh=ks.length-j∧iv=.int .i64 ((j:Nat):Int)∧j≤ks.length∧Aside (Bld w0.heap.size b (l++(60::(t++markT m))++attrT ats++[62]++treesT (erL (ks.take j))) wr∧Below w0.heap.size w0 wr))
    case atStart=>exact⟨0,by omega,rfl,Nat.zero_le _,(show _∧_ from ST2.out)⟩
    case round =>
     obtain⟨j,rfl,rfl,hj,hA⟩:=hrel
     by_cases hjl:j<ks.length
     ·obtain⟨g9,o9,tn,bn,rfl,hc1,hc2,e0,hn⟩:=CELL2.out _ hA.out.2 j hjl
      have CW:=WK.out _ j hjl hA.out.1 hA.out.2
      rw[hn] at CW
      have hji:(j:Int)<((ks.length:Nat):Int):=by omega
      clear hA hn CELL2 TLEN WK WE ST2
      go_wp2_with (go_at_call 61;refine CW.mono ?_;rintro e w5 ⟨rfl,hB5,hb5⟩)
      go_roundg (ks.length-(j+1))
      case measure=>omega
      case rel=>exact⟨j+1,rfl,by go_num,by omega,(show _∧_ from ⟨hB5,hb5⟩)⟩
     ·have hjj:j=ks.length:=by omega
      have hji:¬ (j:Int)<((ks.length:Nat):Int):=by omega
      subst hjj
      have hA1:=hA.out.1
      rw[List.take_length] at hA1
      have CW:Hid (∀s:ByteArray,_):=fun s=>WE.out _ s hA1 hA.out.2
      have d3:=D3.out _ hA.out.2
      clear hA1 CELL2 TLEN WK WE ST2 hA
      go_wp2_with (go_at_call 77;refine (CW.out _ ?_).mono ?_;(simp[T3.out]);rintro e w5 ⟨⟨y5,rfl⟩,hB5,hb5⟩)
      exact bodyPost_end (v:=.tuple #[]) (by simp[results,results91,go_sem]) rfl ⟨rfl,hB5,hb5⟩
end Go.Proofs.YtifhgjpglicjbaaGreatDoor
