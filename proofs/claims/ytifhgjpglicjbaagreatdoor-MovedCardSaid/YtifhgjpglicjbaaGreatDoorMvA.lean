/-
  Moved: the App whose model is a list of keys: what its calls answer and leave.
-/
import Derived.Test.YtifhgjpglicjbaaGreatDoorFtH
import Derived.Test.YtifhgjpglicjbaaGreatDoorRdB
import Derived.Test.YtifhgjpglicjbaaGreatDoorLkB
namespace Go.Proofs.YtifhgjpglicjbaaGreatDoor
open Go.Proofs.Tryz
open Go.RowKit Go.Lib
theorem ty_eq {o:Option Obj}{c c':Array Value}{t t':TypeId}(h:o=some (.cells c t))(h':o=some (.cells c' t')):t=t':=by rw[h] at h';cases h';rfl
def IsRow (w:World)(q:Nat):Prop:=∃cur,w.heap[q]?=some (.cells cur 3)∨w.heap[q]?=some (.cells cur 9)
def RowsKeep (w w':World):Prop:=∀q,IsRow w q→w'.heap[q]?=w.heap[q]?
theorem RowsKeep.trans {a b c:World}(h:RowsKeep a b)(k:RowsKeep b c):RowsKeep a c:=fun q ⟨cur,hq⟩=>by
 have e1:=h q ⟨cur,hq⟩
 rw[k q ⟨cur,by rw[e1];exact hq⟩,e1]
theorem RowsKeep.of_below {w w':World}(h:Below w.heap.size w w'):RowsKeep w w':=fun q ⟨cur,hq⟩=>h.block q (by rcases hq with hq | hq<;>exact block_lt hq)
def PA.fr (a:PA)(w:World)(ab:Nat):PA:={ a with S:=fun q=>q<ab∨IsRow w q,was:=fun q=>w.heap[q]? }
theorem AppAt.frame {w:World}{ab:Nat}{fns:List Fn}{lk:Int}{c:AC}{a:PA}(h:AppAt w ab fns lk c a)(hN:∀n,a.shown=some n→∀b∈blocksA n,¬ b<ab):AppAt w ab fns lk c (a.fr w ab):=by
 have hs:=h.st
 have hlt:=h.lt
 refine⟨h.blk,⟨hs.prog,hs.model,hs.queue,hs.shown,hs.flt,hs.num,hs.hm,hs.fm,hs.fq,hs.ok,hs.nm,hs.hq,⟨fun q hq=>⟨?_,rfl⟩,?_,fun n hn b hb hq=>?_,fun q hq hS=>?_,hs.out.fo⟩⟩⟩
 ·rcases hq with hq | ⟨cur,hq⟩
  ·omega
  ·rcases hq with hq | hq<;>exact block_lt hq
 ·rintro (hq | ⟨cur,hq⟩)
  ·omega
  ·rcases hq with hq | hq<;>exact absurd (ty_eq h.blk hq) (by decide)
 ·rcases hq with hq | ⟨cur,hq⟩
  ·exact hN n hn b hb hq
  ·have hsh:=hs.shown
   rw[show a.shown=some n from hn] at hsh
   obtain⟨c1,t,h4,h5⟩:=AnD.ty (n:=n) hsh b hb
   rw[h4] at hq
   rcases hq with hq | hq<;>(cases hq;revert h5;decide)
 ·obtain⟨cs,h1,_⟩:=hs.queue
  have:=(h1.lt q hq).1
  obtain⟨cur2,h2⟩:=owns_block h1 hq
  rcases hS with hS | ⟨cur,hS⟩
  ·omega
  ·rcases hS with hS | hS<;>exact absurd (ty_eq h2 hS) (by decide)
theorem AppAt.kept {w w':World}{ab:Nat}{fns:List Fn}{lk:Int}{c:AC}{a a':PA}(h:AppAt w' ab fns lk c a')(e1:a'.S=(a.fr w ab).S)(e2:a'.was=(a.fr w ab).was):RowsKeep w w'∧∀n,a'.shown=some n→∀b∈blocksA n,¬ b<ab:=by
 refine⟨fun q hq=>?_,fun n hn b hb hl=>?_⟩
 ·have:=(h.st.out.keep q (by rw[e1];exact Or.inr hq)).2
  rw[this,e2]
  rfl
 ·exact h.st.out.sN n hn b hb (by rw[e1];exact Or.inl hl)
structure KyA1 (way:Bool)(ab:Nat)(w:World)(E:List Ent)(g i b:Nat)(ns:List An)(c:AC)(a:PA):Prop where
 app:AppAt w ab (kyF way) 0 c a
 low:∀n,a.shown=some n→∀b∈blocksA n,¬ b<ab
 shown:a.shown=some (ulA b E ns)
 kn:KNs way E ns
 queue:a.queue=[]
 drop:a.dropped=0
 gr:a.greatest=g
 lz:a.lazies≤12*i
 fr:a.frames=i+1
def KyS (way:Bool)(ab:Nat)(w:World)(E:List Ent)(g i:Nat):Prop:=∃b ns c a,KyA1 way ab w E g i b ns c a
theorem KyS.below {way:Bool}{ab:Nat}{w w':World}{E:List Ent}{g i:Nat}(h:KyS way ab w E g i)(hb:Below w.heap.size w w'):KyS way ab w' E g i:=by
 obtain⟨b,ns,c,a,h⟩:=h
 exact⟨b,ns,c,a,h.app.below hb,h.low,h.shown,h.kn,h.queue,h.drop,h.gr,h.lz,h.fr⟩
theorem KyS.lt {way:Bool}{ab:Nat}{w:World}{E:List Ent}{g i:Nat}(h:KyS way ab w E g i):ab<w.heap.size:=by
 obtain⟨b,ns,c,a,h⟩:=h
 exact h.app.lt
theorem keyB_inj {a b:Nat}(h:keyB a=keyB b)(ha:a<12)(hb:b<12):a=b:=by
 have e:∀(x:Fin 12) (y:Fin 12),keyB x.1=keyB y.1→x=y:=by decide +kernel
 have:=e ⟨a,ha⟩ ⟨b,hb⟩ h
 exact congrArg Fin.val this
theorem keys_nodup {l:List Nat}(h:OrdOk l):(l.map keyB).Nodup:=by
 have hp:List.Pairwise (·≠·) l:=h.nd
 rw[List.Nodup,List.pairwise_map]
 refine hp.imp_of_mem fun {a b} ha hb hne e=>hne (keyB_inj e (h.lt a ha) (h.lt b hb))
theorem keys_val (l:List Nat):PV.lst (l.map keyV)=ksV (l.map keyB):=by simp[ksV,keyV,Function.comp_def]
theorem key_quot {k:Nat}(h:k<12):quotV (keyV k):=by
 have e:∀x:Fin 12,(keyB x.1).all quot=true:=by decide +kernel
 have:=e ⟨k,h⟩
 rw[keyV,quotV]
 exact List.all_eq_true.1 this
theorem keys_good:∀{l:List Nat},(∀k∈l,k<12)→okVs (l.map keyV)∧quotVs (l.map keyV)∧wtVs (l.map keyV)≤5*l.length
 | [],_=>by simp[okVs,quotVs,wtVs]
 | k::r,h=>by
  have:=keys_good (l:=r) fun x hx=>h x (by simp[hx])
  simp only[List.map_cons,okVs,quotVs,wtVs,List.length_cons]
  refine⟨⟨by rw[keyV,okV];trivial,this.1⟩,⟨key_quot (h k (by simp)),this.2.1⟩,?_⟩
  have h1:=itoa12 (h k (by simp))
  have h2:=this.2.2
  simp only[keyV,wtV,keyB,List.length_cons]
  omega
theorem key_x {k:Nat}(h:k<12):KyX (keyB k):=by
 have e:∀x:Fin 12,(keyB x.1).length=2∨(keyB x.1).length=3:=by decide +kernel
 exact e ⟨k,h⟩
theorem keys_x {l:List Nat}(h:OrdOk l):∀x∈l.map keyB,KyX x:=fun x hx=>by
 obtain⟨k,hk,rfl⟩:=List.mem_map.1 hx
 exact key_x (h.lt k hk)
theorem keys_read {l:List Nat}(h:OrdOk l):readV (wrV (.lst (l.map keyV)))=some (ksV (l.map keyB))∧Fine (ksV (l.map keyB)):=by
 have hg:=keys_good h.lt
 have hn:=h.len
 rw[←keys_val]
 exact⟨readV_wr (by rw[okV];exact hg.1) (by rw[quotV];exact hg.2.1) (by rw[wtV];have:=hg.2.2;omega),by rw[okV];exact hg.1,by rw[wtV];have:=hg.2.2;omega⟩
theorem round_ok {way:Bool}{ab:Nat}{w:World}{E:List Ent}{g i:Nat}(h:KyS way ab w E g i)(hg:g≤1000000)(hi:i≤1000000){l:List Nat}(hl:OrdOk l)(k:Nat)(hk:k≤10):
  Calls prog 19 #[.pointer (some ⟨ab,0,none⟩),.string ⟨(wrV (.lst (l.map keyV))).toArray⟩] w fun e w'=>e=.returned .nilIface ∧
   Calls prog 20 #[.pointer (some ⟨ab,0,none⟩),.int .i64 ((k+1:Nat):Int)] w' fun e w'=>e=.returned (.int .i64 1) ∧
   Calls prog 16 #[.pointer (some ⟨ab,0,none⟩)] w' fun e w'=>e=.returned .nilIface∧Below ab w w'∧RowsKeep w w'∧KyS way ab w' (nxt E g (l.map keyB)).1 (nxt E g (l.map keyB)).2 (i+1):=by
 obtain⟨b,ns,c,a,h⟩:=h
 obtain⟨hrd,hfi⟩:=keys_read hl
 have L:=ky_loads way
 have hA0:=h.app.frame h.low
 obtain⟨a0,ha0⟩:∃a0,a0=a.fr w ab:=⟨_,rfl⟩
 rw[←ha0] at hA0
 have hq0:a0.queue=[]:=by rw[ha0];exact h.queue
 have hsl:(wrV (.lst (l.map keyV))).length≤60:=by
  have:=ordT_len hl.lt
  have:=hl.len
  simp[wrV]
  omega
 refine (Send_ok hA0 ⟨(wrV (.lst (l.map keyV))).toArray⟩ (ksV (l.map keyB)) (by show (wrV (.lst (l.map keyV))).toArray.size≤_;simp;omega) (by simpa using hrd) (by rw[ha0];show a.dropped≤_;rw[h.drop];omega)).mono fun e w1 ⟨c1,he,hb1,hA1⟩=>?_
 refine⟨he,?_⟩
 have el:layA a0 [ksV (l.map keyB)]={ a0 with queue:=[ksV (l.map keyB)] }:=by simp[layA,hq0]
 rw[el] at hA1
 refine (Pump_ok L.ok L.un hA1 (k+1) 1 (by omega) (ksV (l.map keyB)) [] (ky_pump way k _ _)).mono fun e w2 ⟨c2,he,hb2,hA2⟩=>?_
 refine⟨he,?_⟩
 have hn12:(l.map keyB).length≤12:=by have:=hl.len;simp;omega
 obtain⟨K,c',z',e1,e2,e3⟩:=ky_frame (b0:=b) h.kn (l.map keyB) (keys_nodup hl) hn12 (keys_x hl)
 have hsh:a0.shown=some (ulA b E ns):=by rw[ha0];exact h.shown
 refine (Frame_ok L.ok L.un hA2 (Or.inr (by simp)) (vwV way (l.map keyB)) 10 K c' z' (ky_view way _ hn12 (keys_x hl)) (by show lookA _ _ _ _ _ a0.shown=_;rw[hsh];exact e1) (by show a0.greatest≤_;rw[ha0];show a.greatest≤_;rw[h.gr];omega) (by show a0.lazies≤_;rw[ha0];have:=h.lz;show a.lazies≤_;omega) (by show a0.frames≤_;rw[ha0];show a.frames≤_;rw[h.fr];omega)).mono fun e w3 ⟨n,F,he,hM,hb3,hA3⟩=>?_
 obtain⟨b',ns',f1,f2⟩:=e3 n F g hM
 have hgr:a0.greatest=g:=by rw[ha0];exact h.gr
 have hk:=hA3.kept (a:=a) (w:=w) (by show a0.S=_;rw[ha0]) (by show a0.was=_;rw[ha0])
 refine⟨he,(hb1.trans hb2).trans hb3,hk.1,b',ns',c2,_,hA3,hk.2,?_,f2,rfl,?_,?_,?_,?_⟩
 ·show some (numA n (bareO a0.shown) a0.greatest).1=_
  rw[hsh,hgr,f1]
 ·show a0.dropped=0
  rw[ha0]
  exact h.drop
 ·show (numA n (bareO a0.shown) a0.greatest).2=_
  rw[hsh,hgr,f1]
 ·show a0.lazies+z'≤_
  rw[ha0]
  have:=h.lz
  show a.lazies+z'≤_
  have hz:z'≤12:=by
   rw[e2]
   split
   ·unfold frsh
    have:=List.length_filter_le (fun x=>(E.find? (·.1==x)).isNone) (l.map keyB)
    omega
   ·omega
  omega
 ·show a0.frames+1=_
  rw[ha0]
  show a.frames+1=_
  rw[h.fr]
theorem ktree_ok {way:Bool}{ab:Nat}{w:World}{E:List Ent}{g i:Nat}(h:KyS way ab w E g i)(hg:g≤1000000)(hl:(ulT E).length≤900000):
  Calls prog 17 #[.pointer (some ⟨ab,0,none⟩)] w fun e w'=>e=.returned (.string (bsA (ulT E)))∧Below ab w w'∧RowsKeep w w'∧KyS way ab w' E g i:=by
 obtain⟨b,ns,c,a,h⟩:=h
 have hA0:=h.app.frame h.low
 have et:=ul_tree (b:=b) h.kn
 refine (Tree_ok hA0 (n:=ulA b E ns) h.shown (by show a.greatest≤_;rw[h.gr];omega) (by rw[et];exact hl)).mono fun e w1 ⟨he,hb1,hA1⟩=>?_
 have hk:=hA1.kept (a:=a) (w:=w) rfl rfl
 rw[et] at he
 exact⟨he,hb1,hk.1,b,ns,c,_,hA1,hk.2,h.shown,h.kn,h.queue,h.drop,h.gr,h.lz,h.fr⟩
theorem bsA_inj {a b:List UInt8}(h:bsA a=bsA b):a=b:=by
 have:=congrArg (fun s:ByteArray=>s.data.toList) h
 simpa[bsA] using this
theorem KNs.get {way:Bool}{E:List Ent}{ns:List An}(h:KNs way E ns):E.length=ns.length∧∀j (hj:j<E.length),∃n,ns[j]?=some n∧KN way E[j] n:=by
 induction h with
 | nil=>exact⟨rfl,fun j hj=>absurd hj (by simp)⟩
 | @cons e n E ns hk _ ih =>
  refine⟨by simp[ih.1],fun j hj=>?_⟩
  cases j with
  | zero=>exact⟨n,rfl,hk⟩
  | succ j =>
   obtain⟨m,h1,h2⟩:=ih.2 j (by simpa using hj)
   exact⟨m,by simpa using h1,by simpa using h2⟩
theorem KN.bare {way:Bool}{e:Ent}{n:An}(h:KN way e n):∃b b1,bareA n=liA b b1 e∧b∈blocksA n∧tagsA n=[]∧∀w D,AnD w D n→AnD w D (liA b b1 e):=by
 cases way with
 | false =>
  obtain⟨b,b1,rfl⟩:=h
  exact⟨b,b1,rfl,by simp[liA,blocksA],rfl,fun w D h=>h⟩
 | true =>
  obtain⟨bz,b,b1,rfl⟩:=h
  refine⟨b,b1,rfl,by simp[lzA,liA,blocksA],rfl,fun w D h=>?_⟩
  rw[lzA,AnD] at h
  exact h.2
def ntT:Option (List UInt8)→List UInt8
 | none=>[]
 | some t=>33::39::(t++[39])
def fdE (E:List Ent)(x:Nat):Option Ent:=E.find? (·.1==keyB x)
def idOf (E:List Ent)(x:Nat):Nat:=match fdE E x with
 | some e=>e.2.1
 | none=>0
def ntOf (E:List Ent)(x:Nat):List UInt8:=match fdE E x with
 | some e=>ntT e.2.2
 | none=>[]
def idC (E:List Ent):Array Value:=((List.range 12).map fun x=>Value.int .i64 ((idOf E x:Nat):Int)).toArray
def ntC (E:List Ent):Array Value:=((List.range 12).map fun x=>Value.string (bsA (ntOf E x))).toArray
theorem idC_get (E:List Ent){x:Nat}(hx:x<12):(idC E)[x]?=some (.int .i64 ((idOf E x:Nat):Int)):=by simp[idC,hx]
theorem ntC_get (E:List Ent){x:Nat}(hx:x<12):(ntC E)[x]?=some (.string (bsA (ntOf E x))):=by simp[ntC,hx]
theorem idC_nil:idC []=Array.replicate 12 (Value.int .i64 0):=by kernel_rfl
theorem ntC_nil:ntC []=Array.replicate 12 (Value.string ⟨#[]⟩):=by kernel_rfl
theorem idC_set (E E':List Ent){x v:Nat}(hx:x<12)(hv:idOf E' x=v)(ho:∀y,y<12→y≠x→idOf E' y=idOf E y):(idC E).setIfInBounds x (.int .i64 ((v:Nat):Int))=idC E':=by
 apply Array.ext_getElem?
 intro k
 rw[Array.getElem?_setIfInBounds]
 by_cases hk:x=k
 ·subst hk
  rw[if_pos rfl,if_pos (by simp[idC,hx]),idC_get E' hx,hv]
 ·rw[if_neg hk]
  by_cases hk2:k<12
  ·rw[idC_get E hk2,idC_get E' hk2,ho k hk2 fun e=>hk e.symm]
  ·simp[idC,hk2]
theorem ntC_set (E E':List Ent){x:Nat}{v:List UInt8}(hx:x<12)(hv:ntOf E' x=v)(ho:∀y,y<12→y≠x→ntOf E' y=ntOf E y):(ntC E).setIfInBounds x (.string (bsA v))=ntC E':=by
 apply Array.ext_getElem?
 intro k
 rw[Array.getElem?_setIfInBounds]
 by_cases hk:x=k
 ·subst hk
  rw[if_pos rfl,if_pos (by simp[ntC,hx]),ntC_get E' hx,hv]
 ·rw[if_neg hk]
  by_cases hk2:k<12
  ·rw[ntC_get E hk2,ntC_get E' hk2,ho k hk2 fun e=>hk e.symm]
  ·simp[ntC,hk2]
theorem ntC_same (E E':List Ent)(ho:∀y,y<12→ntOf E' y=ntOf E y):ntC E=ntC E':=by
 apply Array.ext_getElem?
 intro k
 by_cases hk2:k<12
 ·rw[ntC_get E hk2,ntC_get E' hk2,ho k hk2]
 ·simp[ntC,hk2]
theorem nxt_snoc (E0:List Ent)(x:List UInt8):∀(l:List (List UInt8)) (g:Nat),nxt E0 g (l++[x])=((nxt E0 g l).1++[(nx1 x (E0.find? (·.1==x)) (nxt E0 g l).2).1],(nx1 x (E0.find? (·.1==x)) (nxt E0 g l).2).2)
 | [],g=>by simp[nxt]
 | y::r,g=>by
  simp only[List.cons_append,nxt]
  rw[nxt_snoc E0 x r]
theorem entsT_snoc (e:Ent):∀E:List Ent,entsT (E++[e])=entsT E++entT e
 | []=>by simp[entsT]
 | x::r=>by simp[entsT,entsT_snoc e r]
theorem nx1_key (x:List UInt8)(oe:Option Ent)(g:Nat):(nx1 x oe g).1.1=x:=by unfold nx1;split<;>rfl
theorem fdE_none {E:List Ent}{l:List Nat}(hE:E.map (·.1)=l.map keyB)(hl:∀k∈l,k<12){x:Nat}(hx:x<12)(hn:x ∉ l):fdE E x=none:=by
 unfold fdE
 rw[List.find?_eq_none]
 intro e he hq
 have hq:=eq_of_beq hq
 have hm:e.1∈E.map (·.1):=List.mem_map_of_mem he
 rw[hE,List.mem_map] at hm
 obtain⟨k,hk,hke⟩:=hm
 rw[hq] at hke
 exact hn (keyB_inj hke (hl k hk) hx ▸ hk)
theorem fdE_snoc (E:List Ent)(e:Ent)(y:Nat):fdE (E++[e]) y=(fdE E y).or (if e.1=keyB y then some e else none):=by
 unfold fdE
 rw[List.find?_append]
 congr 1
 by_cases h:e.1=keyB y<;>simp[h]
theorem tab_snoc {E0:List Ent}{g:Nat}{l:List Nat}(hl:OrdOk l){k:Nat}(hk:k<l.length):
  (nxt E0 g ((l.take (k+1)).map keyB)).1=(nxt E0 g ((l.take k).map keyB)).1++[(nx1 (keyB l[k]) (fdE E0 l[k]) (nxt E0 g ((l.take k).map keyB)).2).1]∧(nxt E0 g ((l.take (k+1)).map keyB)).2=(nx1 (keyB l[k]) (fdE E0 l[k]) (nxt E0 g ((l.take k).map keyB)).2).2 ∧
  fdE (nxt E0 g ((l.take (k+1)).map keyB)).1 l[k]=some (nx1 (keyB l[k]) (fdE E0 l[k]) (nxt E0 g ((l.take k).map keyB)).2).1∧fdE (nxt E0 g ((l.take k).map keyB)).1 l[k]=none∧∀y,y<12→y≠l[k]→fdE (nxt E0 g ((l.take (k+1)).map keyB)).1 y=fdE (nxt E0 g ((l.take k).map keyB)).1 y:=by
 have hx:=hl.lt _ (List.getElem_mem hk)
 have h1:(l.take (k+1)).map keyB=(l.take k).map keyB++[keyB l[k]]:=by rw[List.take_succ_eq_append_getElem hk,List.map_append];rfl
 have h2:=nxt_snoc E0 (keyB l[k]) ((l.take k).map keyB) g
 rw[←h1] at h2
 have hni:l[k] ∉ l.take k:=fun hm=>by
  obtain⟨j,hj,he⟩:=List.mem_take_iff_getElem.1 hm
  have hp:List.Pairwise (·≠·) l:=hl.nd
  rw[List.pairwise_iff_getElem] at hp
  exact hp j k (by omega) hk (by omega) he
 have hn:fdE (nxt E0 g ((l.take k).map keyB)).1 l[k]=none:=fdE_none (nxt_keys E0 _ g) (fun q hq=>hl.lt q (List.mem_of_mem_take hq)) hx hni
 refine⟨by rw[h2];rfl,by rw[h2];rfl,?_,hn,fun y hy hne=>?_⟩
 ·rw[h2]
  rw[fdE_snoc,hn,nx1_key]
  simp only[if_true,Option.none_or]
  rfl
 ·rw[h2,fdE_snoc,nx1_key,if_neg fun e=>hne (keyB_inj e hx hy).symm]
  simp
structure EnOk (E:List Ent)(g:Nat):Prop where
 pos:∀e∈E,0<e.2.1∧e.2.1≤g∧∀t,e.2.2=some t→t.length≤4
theorem fdE_mem {E:List Ent}{x:Nat}{e:Ent}(h:fdE E x=some e):e∈E∧e.1=keyB x:=⟨List.mem_of_find?_eq_some h,by have:=List.find?_some h;exact eq_of_beq this⟩
theorem nx1_ok {E0:List Ent}{g g1:Nat}(h:EnOk E0 g)(hg:g≤g1)(x:Nat):0<(nx1 (keyB x) (fdE E0 x) g1).1.2.1∧(nx1 (keyB x) (fdE E0 x) g1).1.2.1≤(nx1 (keyB x) (fdE E0 x) g1).2∧(∀t,(nx1 (keyB x) (fdE E0 x) g1).1.2.2=some t→t.length≤4)∧g1≤(nx1 (keyB x) (fdE E0 x) g1).2∧(nx1 (keyB x) (fdE E0 x) g1).2≤g1+2:=by
 cases hf:fdE E0 x with
 | none=>exact⟨by show 0<g1+1;omega,by show g1+1≤g1+2;omega,(fun t (ht:none=some t)=>nomatch ht),by show g1≤g1+2;omega,by show g1+2≤g1+2;omega⟩
 | some e =>
  have:=h.pos e (fdE_mem hf).1
  exact⟨this.1,by show e.2.1≤g1;omega,this.2.2,by show g1≤g1;omega,by show g1≤g1+2;omega⟩
theorem nxt_ok {E0:List Ent}{g:Nat}(h:EnOk E0 g){l:List Nat}(hl:OrdOk l):∀k,k≤l.length→EnOk (nxt E0 g ((l.take k).map keyB)).1 (nxt E0 g ((l.take k).map keyB)).2∧g≤(nxt E0 g ((l.take k).map keyB)).2∧(nxt E0 g ((l.take k).map keyB)).2≤g+2*k
 | 0,_=>⟨⟨fun e he=>by simp[nxt] at he⟩,by simp[nxt],by simp[nxt]⟩
 | k+1,hk=>by
  obtain⟨i1,i2,i3⟩:=nxt_ok h hl k (by omega)
  obtain⟨t1,t2,_⟩:=tab_snoc (E0:=E0) (g:=g) hl (k:=k) (by omega)
  have hn:=nx1_ok h i2 l[k]
  rw[t1,t2]
  refine⟨⟨fun e he=>?_⟩,by omega,by omega⟩
  rw[List.mem_append,List.mem_singleton] at he
  rcases he with he | rfl
  ·have:=i1.pos e he
   exact⟨this.1,by omega,this.2.2⟩
  ·exact⟨hn.1,hn.2.1,hn.2.2.1⟩
theorem entT_len {e:Ent}{x:Nat}(hx:x<12)(h1:e.1=keyB x)(h2:e.2.1≤1000000)(h3:∀t,e.2.2=some t→t.length≤4)(hi:∀n:Nat,n≤1000001→(itoa ((n:Nat):Int)).length≤21):(entT e).length≤90:=by
 have a1:=hi e.2.1 (by omega)
 have a2:=hi (e.2.1+1) (by omega)
 have a3:=hi x (by omega)
 have a4:(ntT e.2.2).length≤7:=by
  cases he:e.2.2 with
  | none=>simp[ntT]
  | some t=>have:=h3 t he;simp[ntT];omega
 have e1:markT ⟨e.2.1,e.2.2⟩=35::(itoa ((e.2.1:Nat):Int)++ntT e.2.2):=by
  unfold markT ntT
  cases e.2.2<;>rfl
 simp only[entT,e1,h1,keyB,List.length_append,List.length_cons,List.length_nil]
 omega
def RowsAt (w:World)(v:Value)(L:List (List Int)):Prop:=∃ad cap,v=.slice ad L.length cap∧L.length≤cap∧cap≤maxLen∧∀j (hj:j<L.length),∃g o sl,ad=some ⟨g,o,none⟩∧w.cell? ⟨g,o+j,none⟩=some sl∧IntsAt w sl L[j]
theorem cell_of {w:World}{b:Nat}{c:Array Value}{t:TypeId}(h:w.heap[b]?=some (.cells c t))(j:Nat):w.cell? ⟨b,j,none⟩=c[j]?:=by unfold World.cell?;rw[h];rfl
theorem frozen_of {w:World}{b:Nat}{c:Array Value}{t:TypeId}(h:w.heap[b]?=some (.cells c t))(j:Nat):w.frozen? ⟨b,j,none⟩=false:=by unfold World.frozen?;rw[h];rfl
theorem owns_cell {w:World}{base:Nat}{v:Value}{l:List Nat}(h:w.ownsRow base 3 1 v l.length (l.map intV)){k:Nat}(hk:k<l.length):∃g vcap,v=.slice (some ⟨g,0,none⟩) l.length vcap∧l.length≤vcap∧vcap≤9223372036854775807∧w.cell? ⟨g,k,none⟩=some (.int .i64 ((l[k]:Nat):Int))∧∃cur,w.heap[g]?=some (.cells cur 3):=by
 rcases h.2 with ⟨_,h0⟩ | ⟨g,cap',cur,hv,hg,hh,hc',hm,hz,ht⟩
 ·omega
 ·refine⟨g,cap',hv,hc',by unfold maxLen at hm;omega,?_,cur,hh⟩
  have e1:=congrArg (·[k]?) ht
  simp only[Nat.mul_one] at e1
  rw[List.getElem?_take_of_lt (by omega),List.getElem?_map,List.getElem?_eq_getElem hk] at e1
  rw[cell_of hh]
  simpa[intV] using e1
theorem itoaM {n:Nat}(h:n≤2000000):(itoa ((n:Nat):Int)).length≤21:=itoa_length_le (n:Int) (by omega) (by omega)
theorem ents_len:∀{E:List Ent} {l:List Nat} {g:Nat},E.map (·.1)=l.map keyB→(∀k∈l,k<12)→EnOk E g→g≤1000000→(entsT E).length≤90*l.length
 | [],[],g,_,_,_,_=>by simp[entsT]
 | [],_::_,g,h,_,_,_=>by simp at h
 | _::_,[],g,h,_,_,_=>by simp at h
 | e::E,x::l,g,h,hl,ho,hg=>by
  simp only[List.map_cons,List.cons.injEq] at h
  have:=ents_len h.2 (fun k hk=>hl k (by simp[hk])) ⟨fun e he=>ho.pos e (by simp[he])⟩ hg
  have hp:=ho.pos e (by simp)
  have:=entT_len (e:=e) (hl x (by simp)) h.1 (by omega) hp.2.2 fun n hn=>itoaM (by omega)
  simp only[entsT,List.length_append,List.length_cons]
  omega
theorem fdE_at {E:List Ent}{l:List Nat}(hE:E.map (·.1)=l.map keyB)(hl:OrdOk l){m:Nat}(hm:m<l.length):fdE E l[m]=E[m]?:=by
 have hlen:E.length=l.length:=by have:=congrArg List.length hE;simpa using this
 have hk:∀q (hq:q<E.length),E[q].1=keyB (l[q]'(by omega)):=fun q hq=>by
  have:=congrArg (·[q]?) hE
  simp only[List.getElem?_map,List.getElem?_eq_getElem hq,List.getElem?_eq_getElem (show q<l.length by omega)] at this
  simpa using this
 rw[List.getElem?_eq_getElem (by omega)]
 unfold fdE
 rw[List.find?_eq_some_iff_getElem]
 refine⟨by rw[hk m (by omega)];simp,m,by omega,rfl,fun q hq=>?_⟩
 rw[hk q (by omega)]
 have hp:List.Pairwise (·≠·) l:=hl.nd
 rw[List.pairwise_iff_getElem] at hp
 have:=hp q m (by omega) hm hq
 simp only[Bool.not_eq_true',beq_eq_false_iff_ne,ne_eq]
 exact fun e=>this (keyB_inj e (hl.lt _ (List.getElem_mem _)) (hl.lt _ (List.getElem_mem _)))
end Go.Proofs.YtifhgjpglicjbaaGreatDoor
