/-
  Frames, the program: marks are put.
-/
import Derived.Test.YtifhgjpglicjbaaGreatDoorFrX
set_option maxHeartbeats 4000000
set_option maxRecDepth 8000
namespace Go.Proofs.YtifhgjpglicjbaaGreatDoor
open Go.Proofs.Tryz
open Go.RowKit Go.Lib
theorem kids_atD {w:World}{D:Nat→Prop}{n:An}(h:AnD w D n):AnsD w D (kidsO (some n)):=by
 cases n with
 | txt b m s=>show AnsD w D [];rw[AnsD];trivial
 | el b m t ats hs ks=>rw[AnD] at h;exact h.2
 | ky b m t ats hs keys ks=>rw[AnD] at h;exact h.2
 | tg b f n=>rw[AnD] at h;rw[kidsO,AnsD,AnsD];exact⟨h.2,trivial⟩
 | lz b f args n=>rw[AnD] at h;rw[kidsO,AnsD,AnsD];exact⟨h.2,trivial⟩
def putM (w:World)(b:Nat)(m:Mk):World:=((w.setCell ⟨b,0,none⟩ (mkN m)).setCell ⟨b,1,none⟩ (mkW m)).setCell ⟨b,2,none⟩ (mkS m)
theorem putM_size (w:World)(b:Nat)(m:Mk):(putM w b m).heap.size=w.heap.size:=by simp[putM,World.setCell]
theorem putM_other (w:World)(b:Nat)(m:Mk)(q:Nat)(h:q≠b):(putM w b m).heap[q]?=w.heap[q]?:=by
 unfold putM
 rw[Below.heap_setCell _ ⟨b,2,none⟩ _ q h,Below.heap_setCell _ ⟨b,1,none⟩ _ q h,Below.heap_setCell _ ⟨b,0,none⟩ _ q h]
theorem putM_block {w:World}{b:Nat}{m:Mk}{c:Array Value}{t:TypeId}(h:w.heap[b]?=some (.cells c t)):(putM w b m).heap[b]?=some (.cells (((c.setIfInBounds 0 (mkN m)).setIfInBounds 1 (mkW m)).setIfInBounds 2 (mkS m)) t):=set_block (j:=2) (set_block (j:=1) (set_block (j:=0) h (mkN m)) (mkW m)) (mkS m)
theorem putM_touch (w:World)(b:Nat)(m:Mk):Touch (·=b) w (putM w b m):=(((Touch.refl (·=b) w).setCell (p:=⟨b,0,none⟩) (Or.inl rfl) _).setCell (p:=⟨b,1,none⟩) (Or.inl rfl) _).setCell (p:=⟨b,2,none⟩) (Or.inl rfl) _
theorem putM_rk {w:World}{b:Nat}{m:Mk}{c:Array Value}{t:TypeId}(h:w.heap[b]?=some (.cells c t))(ht:t≠74∧t≠270∧t≠160∧t≠90∧t≠9):RK w (putM w b m) :=
 ((RK.setCell h ht _).trans (RK.setCell (set_block (j:=0) h (mkN m)) ht _)).trans (RK.setCell (set_block (j:=1) (set_block (j:=0) h (mkN m)) (mkW m)) ht _)
theorem shown_block {w:World}{D:Nat→Prop}{n:An}(h:AnD w D n)(hs:shownA n=true):∃c t,w.heap[blkA n]?=some (.cells c t)∧(t≠74∧t≠270∧t≠160∧t≠90∧t≠9):=by
 cases n with
 | txt b m s=>rw[AnD] at h;exact⟨_,_,h,by decide⟩
 | el b m t ats hs ks=>rw[AnD] at h;obtain⟨⟨av,hv,nv,hc,h,h2⟩,h3⟩:=h;exact⟨_,_,h,by decide⟩
 | ky b m t ats hs keys ks=>rw[AnD] at h;obtain⟨⟨av,hv,nv,hc,kv,h,h2⟩,h3⟩:=h;exact⟨_,_,h,by decide⟩
 | tg b f n=>cases hs
 | lz b f args n=>cases hs
theorem putM_at {w:World}{D:Nat→Prop}{n:An}{m:Mk}(h:AnD w D n)(hs:shownA n=true)(hk:∀q∈blocksL (kidsO (some n)),q≠blkA n):AnD (putM w (blkA n) m) D (setM n m):=by
 obtain⟨c,t,h1,ht⟩:=shown_block h hs
 have rk:RK w (putM w (blkA n) m):=putM_rk h1 ht
 cases n with
 | txt b m0 s =>
  rw[AnD] at h
  rw[setM,AnD]
  exact putM_block h
 | el b m0 t ats hs ks =>
  rw[AnD] at h
  obtain⟨⟨av,hv,nv,hc,h,h2⟩,h3⟩:=h
  rw[setM,AnD]
  exact⟨⟨av,hv,nv,hc,putM_block h,h2.keep (rk.rkd _)⟩,h3.keep rk fun q hq=>putM_other _ _ _ _ (hk q hq)⟩
 | ky b m0 t ats hs keys ks =>
  rw[AnD] at h
  obtain⟨⟨av,hv,nv,hc,kv,h,h2,h4⟩,h3⟩:=h
  rw[setM,AnD]
  exact⟨⟨av,hv,nv,hc,kv,putM_block h,h2.keep (rk.rkd _),RowAt.tyKeep h4 rk.ks⟩,h3.keep rk fun q hq=>putM_other _ _ _ _ (hk q hq)⟩
 | tg b f n=>cases hs
 | lz b f args n=>cases hs
theorem putM_same {w:World}{D:Nat→Prop}{n:An}(h:AnD w D n)(hs:shownA n=true)(q:Nat):(putM w (blkA n) (markOf n)).heap[q]?=w.heap[q]?:=by
 by_cases hq:q=blkA n
 ·subst hq
  cases n with
  | txt b m0 s =>
   rw[AnD] at h
   exact (putM_block h).trans h.symm
  | el b m0 t ats hs ks =>
   rw[AnD] at h
   obtain⟨⟨av,hv,nv,hc,h,h2⟩,h3⟩:=h
   exact (putM_block h).trans h.symm
  | ky b m0 t ats hs keys ks =>
   rw[AnD] at h
   obtain⟨⟨av,hv,nv,hc,kv,h,h2,h4⟩,h3⟩:=h
   exact (putM_block h).trans h.symm
  | tg b f n=>cases hs
  | lz b f args n=>cases hs
 ·exact putM_other _ _ _ _ hq
theorem setM_self {n:An}(hs:shownA n=true):setM n (markOf n)=n:=by cases n<;>first | rfl | cases hs
theorem setM_val (n:An)(m:Mk):(setM n m).val=n.val∧kidsO (some (setM n m))=kidsO (some n)∧kdA (setM n m)=kdA n∧blkA (setM n m)=blkA n∧(shownA (setM n m)=shownA n):=by cases n<;>exact⟨rfl,rfl,rfl,rfl,rfl⟩
theorem numA_shown {n:An}(hs:shownA n=true)(o:Option An)(g:Nat):numA n o g=(setK (setM n (markA (kdA n) o g).1) (numAs (kdA n) o 0 (kidsO (some n)) (markA (kdA n) o g).2).1,(numAs (kdA n) o 0 (kidsO (some n)) (markA (kdA n) o g).2).2):=by
 cases n<;>first | (simp[numA,setM,setK,kdA,kidsO,numAs];done) | cases hs
theorem setK_at {w w':World}{D:Nat→Prop}{n:An}{ks:List An}(h:AnD w D n)(hs:shownA n=true)(hb:w'.heap[blkA n]?=w.heap[blkA n]?)(rk:RK w w')(hv:ks.map An.val=(kidsO (some n)).map An.val)(hk:AnsD w' D ks):AnD w' D (setK n ks):=by
 have hl:ks.length=(kidsO (some n)).length:=by have:=congrArg List.length hv;simpa using this
 cases n with
 | txt b m0 s =>
  rw[AnD] at h
  show AnD w' D (.txt b m0 s)
  rw[AnD]
  exact hb.trans h
 | el b m0 t ats hs ks0 =>
  rw[AnD] at h
  obtain⟨⟨av,hv',nv,hc,h,h2⟩,h3⟩:=h
  rw[setK,AnD]
  exact⟨⟨av,hv',nv,hc,hb.trans h,by rw[hv,hl];exact h2.keep (rk.rkd _)⟩,hk⟩
 | ky b m0 t ats hs keys ks0 =>
  rw[AnD] at h
  obtain⟨⟨av,hv',nv,hc,kv,h,h2,h4⟩,h3⟩:=h
  rw[setK,AnD]
  exact⟨⟨av,hv',nv,hc,kv,hb.trans h,by rw[hv,hl];exact h2.keep (rk.rkd _),RowAt.tyKeep h4 rk.ks⟩,hk⟩
 | tg b f n=>cases hs
 | lz b f args n=>cases hs
theorem numAs_snoc (k:Kd)(o:Option An):∀(l:List An) (n:An) (i g:Nat),numAs k o i (l++[n]) g=((numAs k o i l g).1++[(numA n (bareO (oppA k o (i+l.length))) (numAs k o i l g).2).1],(numA n (bareO (oppA k o (i+l.length))) (numAs k o i l g).2).2)
 | [],n,i,g=>by simp[numAs]
 | a::r,n,i,g=>by
  rw[List.cons_append,numAs,numAs_snoc k o r n (i+1)]
  simp only[numAs,List.cons_append,List.length_cons]
  rw[show i+1+r.length=i+(r.length+1) by omega]
theorem markA_le (k:Kd)(o:Option An)(g:Nat):g≤(markA k o g).2∧(markA k o g).2≤g+1:=by
 unfold markA
 split
 ·split<;>simp
 ·simp
mutual
theorem numA_le:∀(n:An) (o:Option An) (g:Nat),g≤(numA n o g).2∧(numA n o g).2≤g+sizeA n
 | .txt b m s,o,g=>by have:=markA_le .txt o g;simp only[numA,sizeA];omega
 | .el b m t ats hs ks,o,g=>by
  have h1:=markA_le (.el t) o g
  have h2:=numAs_le (.el t) o ks 0 (markA (.el t) o g).2
  simp only[numA,sizeA]
  omega
 | .ky b m t ats hs keys ks,o,g=>by
  have h1:=markA_le (.ky t keys) o g
  have h2:=numAs_le (.ky t keys) o ks 0 (markA (.ky t keys) o g).2
  simp only[numA,sizeA]
  omega
 | .tg b f n,o,g=>by have:=numA_le n o g;simp only[numA,sizeA];omega
 | .lz b f args n,o,g=>by have:=numA_le n o g;simp only[numA,sizeA];omega
theorem numAs_le (k:Kd)(o:Option An):∀(l:List An) (i g:Nat),g≤(numAs k o i l g).2∧(numAs k o i l g).2≤g+sizeL l
 | [],i,g=>by simp[numAs]
 | n::r,i,g=>by
  have h1:=numA_le n (bareO (oppA k o i)) g
  have h2:=numAs_le k o r (i+1) (numA n (bareO (oppA k o i)) g).2
  simp only[numAs,sizeL]
  omega
end
theorem numAs_vals (k:Kd)(o:Option An):∀(l:List An) (i g:Nat),(numAs k o i l g).1.map An.val=l.map An.val
 | [],i,g=>by simp[numAs]
 | n::r,i,g=>by simp[numAs,numA_val,numAs_vals k o r]
mutual
theorem AnD.ty {w:World}{D:Nat→Prop}:∀{n:An},AnD w D n→∀b∈blocksA n,∃c t,w.heap[b]?=some (.cells c t)∧(t=216∨t=223∨t=225∨t=228∨t=231)
 | .txt b m s,h,q,hq=>by
  rw[AnD] at h
  simp[blocksA] at hq
  subst hq
  exact⟨_,_,h,by simp⟩
 | .el b m t ats hs ks,h,q,hq=>by
  rw[AnD] at h
  obtain⟨⟨av,hv,nv,hc,h1,h2⟩,h3⟩:=h
  simp[blocksA] at hq
  rcases hq with rfl | hq
  ·exact⟨_,_,h1,by simp⟩
  ·exact AnsD.ty h3 q hq
 | .ky b m t ats hs keys ks,h,q,hq=>by
  rw[AnD] at h
  obtain⟨⟨av,hv,nv,hc,kv,h1,h2⟩,h3⟩:=h
  simp[blocksA] at hq
  rcases hq with rfl | hq
  ·exact⟨_,_,h1,by simp⟩
  ·exact AnsD.ty h3 q hq
 | .tg b f n,h,q,hq=>by
  rw[AnD] at h
  simp[blocksA] at hq
  rcases hq with rfl | hq
  ·exact⟨_,_,h.1,by simp⟩
  ·exact AnD.ty h.2 q hq
 | .lz b f args n,h,q,hq=>by
  rw[AnD] at h
  obtain⟨⟨sl,cs,h1,h2,h3⟩,h4⟩:=h
  simp[blocksA] at hq
  rcases hq with rfl | hq
  ·exact⟨_,_,h1,by simp⟩
  ·exact AnD.ty h4 q hq
theorem AnsD.ty {w:World}{D:Nat→Prop}:∀{l:List An},AnsD w D l→∀b∈blocksL l,∃c t,w.heap[b]?=some (.cells c t)∧(t=216∨t=223∨t=225∨t=228∨t=231)
 | [],_,q,hq=>by simp[blocksL] at hq
 | n::r,h,q,hq=>by
  rw[AnsD] at h
  simp[blocksL] at hq
  rcases hq with hq | hq
  ·exact AnD.ty h.1 q hq
  ·exact AnsD.ty h.2 q hq
end
theorem NB.notin {w:World}{D:Nat→Prop}{nb g:Nat}(h:NB w nb g){n:An}(hn:AnD w D n):nb ∉ blocksA n:=fun hq=>by
 obtain⟨c,t,h1,h2⟩:=hn.ty nb hq
 rw[show w.heap[nb]?=_ from h] at h1
 cases h1
 revert h2
 decide
theorem NB.notinL {w:World}{D:Nat→Prop}{nb g:Nat}(h:NB w nb g){n:List An}(hn:AnsD w D n):nb ∉ blocksL n:=fun hq=>by
 obtain⟨c,t,h1,h2⟩:=hn.ty nb hq
 rw[show w.heap[nb]?=_ from h] at h1
 cases h1
 revert h2
 decide
def frN (base:Nat)(l:List Nat):List Nat:=l.filter fun b=>decide (base≤b)
def TN (base nb:Nat)(bl:List Nat):Nat→Prop:=fun k=>(base≤k∧k∈bl)∨k=nb
structure NP (D:Nat→Prop)(base nb:Nat)(n:An)(o:Option An)(g:Nat)(w:World):Prop where
 an:AnD w D n
 wf:WfA n
 fit:Fit base n o
 nd:(frN base (blocksA n)).Nodup
 oa:OAt w o
 ok:OldOk base o
 sh:∀m,o=some m→shownA m=true
 nbk:NB w nb g
 hb:base≤nb
 hs:sizeA n≤100
 hg:g+sizeA n≤1000000000
def nuP (D:Nat→Prop)(base nb:Nat)(n:An)(o:Option An)(g:Nat)(w:World)(e:Ending)(w':World):Prop :=
 (∃v,e=.returned v)∧Touch (TN base nb (blocksA n)) w w'∧RK w w'∧AnD w' D (numA n o g).1∧NB w' nb (numA n o g).2
def NumDo (D:Nat→Prop)(base nb f:Nat):Prop:=∀(n:An) (o:Option An) (g:Nat) (w:World),sizeA n≤f→NP D base nb n o g w→Calls prog 88 #[.pointer (some ⟨nb,0,none⟩),(bareA n).val,valN o] w (nuP D base nb n o g w)
theorem OD.keep {w w':World}{D:Nat→Prop}{o:Option An}(h:OD w D o)(hk:RK w w')(hb:∀n,o=some n→∀b∈blocksA n,w'.heap[b]?=w.heap[b]?):OD w' D o:=by
 cases o with
 | none=>trivial
 | some n=>exact AnD.keep hk (hb n rfl) h
theorem bareA_ok {w:World}{D:Nat→Prop}:∀{n:An},AnD w D n→AnD w D (bareA n)
 | .txt _ _ _,h=>h
 | .el _ _ _ _ _ _,h=>h
 | .ky _ _ _ _ _ _ _,h=>h
 | .tg _ _ n,h=>by rw[AnD] at h;rw[bareA];exact bareA_ok h.2
 | .lz _ _ _ n,h=>by rw[AnD] at h;rw[bareA];exact bareA_ok h.2
theorem bareA_old:∀{n:An},(WfA n→WfA (bareA n))∧sizeA (bareA n)≤sizeA n∧∀b∈blocksA (bareA n),b∈blocksA n
 | .txt _ _ _=>⟨id,Nat.le_refl _,fun _ h=>h⟩
 | .el _ _ _ _ _ _=>⟨id,Nat.le_refl _,fun _ h=>h⟩
 | .ky _ _ _ _ _ _ _=>⟨id,Nat.le_refl _,fun _ h=>h⟩
 | .tg _ _ n=>by
  have:=bareA_old (n:=n)
  rw[bareA,WfA,sizeA,blocksA]
  exact⟨this.1,by omega,fun b hb=>List.mem_cons_of_mem _ (this.2.2 b hb)⟩
 | .lz _ _ _ n=>by
  have:=bareA_old (n:=n)
  rw[bareA,WfA,sizeA,blocksA]
  exact⟨fun h=>this.1 h.2,by omega,fun b hb=>List.mem_cons_of_mem _ (this.2.2 b hb)⟩
theorem OD.bare {w:World}{D:Nat→Prop}{o:Option An}(h:OD w D o):OD w D (bareO o):=by
 cases o with
 | none=>trivial
 | some n=>exact bareA_ok h
theorem OldOk.bare {lb:Nat}{o:Option An}(h:OldOk lb o):OldOk lb (bareO o):=by
 cases o with
 | none=>exact h
 | some n =>
  intro m hm
  cases hm
  have h1:=h n rfl
  have h2:=bareA_old (n:=n)
  exact⟨h2.1 h1.1,by omega,fun b hb=>h1.2.2 b (h2.2.2 b hb)⟩
theorem FitL.at {base:Nat}{k:Kd}{o:Option An}:∀{l:List An} {i:Nat},FitL base k o i l→∀j (hj:j<l.length),Fit base l[j] (bareO (oppA k o (i+j)))
 | [],i,_,j,hj=>by simp at hj
 | n::r,i,h,0,_=>by rw[FitL] at h;exact h.1
 | n::r,i,h,j+1,hj=>by
  rw[FitL] at h
  have:=h.2.at j (by simpa using hj)
  rw[show i+(j+1)=i+1+j by omega]
  exact this
theorem WfA.kids {n:An}(h:WfA n):WfL (kidsO (some n)):=by
 cases n with
 | txt=>simp[kidsO,WfL]
 | el=>rw[WfA] at h;exact h
 | ky=>rw[WfA] at h;exact h.2.2
 | tg=>rw[WfA] at h;simp[kidsO,WfL,h]
 | lz=>rw[WfA] at h;simp[kidsO,WfL,h.2]
theorem blocksA_shown {n:An}(hs:shownA n=true):blocksA n=blkA n::blocksL (kidsO (some n)):=by
 cases n<;>first | (simp[blocksA,blkA,kidsO,blocksL];done) | cases hs
theorem fit_shown {base:Nat}{n:An}{o:Option An}(hs:shownA n=true)(h:Fit base n o):(base≤blkA n∨o=some n)∧FitL base (kdA n) o 0 (kidsO (some n)):=by
 cases n with
 | txt=>rw[Fit] at h;exact⟨h,by simp[kidsO,FitL]⟩
 | el=>rw[Fit] at h;exact h
 | ky=>rw[Fit] at h;exact h
 | tg=>cases hs
 | lz=>cases hs
theorem blocksL_append (a b:List An):blocksL (a++b)=blocksL a++blocksL b:=by
 induction a with
 | nil=>simp[blocksL]
 | cons x r ih=>simp[blocksL,ih]
theorem frN_mem {base q:Nat}{l:List Nat}:q∈frN base l ↔ q∈l∧base≤q:=by simp[frN]
theorem frN_append (base:Nat)(a b:List Nat):frN base (a++b)=frN base a++frN base b:=by simp[frN]
theorem kids_apart {base:Nat}{l:List An}(h:(frN base (blocksL l)).Nodup)(j:Nat)(hj:j<l.length):(frN base (blocksA l[j])).Nodup∧∀q,base≤q→q∈blocksA l[j]→q ∉ blocksL (l.take j)∧q ∉ blocksL (l.drop (j+1)):=by
 have e:l=l.take j++l[j]::l.drop (j+1):=by rw[←List.drop_eq_getElem_cons hj,List.take_append_drop]
 have e2:blocksL l=blocksL (l.take j)++(blocksA l[j]++blocksL (l.drop (j+1))):=by
  conv=>lhs;rw[e]
  rw[blocksL_append,blocksL]
 rw[e2,frN_append,frN_append] at h
 have h1:=List.nodup_append.1 h
 have h2:=List.nodup_append.1 h1.2.1
 refine⟨h2.1,fun q hq hm=>⟨fun h3=>?_,fun h3=>?_⟩⟩
 ·exact h1.2.2 q (frN_mem.2 ⟨h3,hq⟩) q (List.mem_append_left _ (frN_mem.2 ⟨hm,hq⟩)) rfl
 ·exact h2.2.2 q (frN_mem.2 ⟨hm,hq⟩) q (frN_mem.2 ⟨h3,hq⟩) rfl
theorem put_step {D:Nat→Prop}{base nb:Nat}{n:An}{o:Option An}{g:Nat}{w w1:World}(h:NP D base nb n o g w)(hs:shownA n=true)(hL:LT nb w w1)(hN:NB w1 nb (markA (kdA n) o g).2):
  AnD (putM w1 (blkA n) (markA (kdA n) o g).1) D (setM n (markA (kdA n) o g).1)∧Touch (TN base nb (blocksA n)) w (putM w1 (blkA n) (markA (kdA n) o g).1)∧RK w (putM w1 (blkA n) (markA (kdA n) o g).1)∧NB (putM w1 (blkA n) (markA (kdA n) o g).1) nb (markA (kdA n) o g).2:=by
 have hnn:=h.nbk.notin h.an
 have a1:AnD w1 D n:=h.an.lt' hL fun b hb e=>hnn (e ▸ hb)
 have hbn:blkA n≠nb:=fun e=>hnn (by rw[blocksA_shown hs,e];simp)
 obtain⟨c,t,h1,ht⟩:=shown_block a1 hs
 have rk:RK w1 (putM w1 (blkA n) (markA (kdA n) o g).1):=putM_rk h1 ht
 have t1:Touch (TN base nb (blocksA n)) w w1:=hL.touch.mono fun q hq=>Or.inr hq
 have nb2:NB (putM w1 (blkA n) (markA (kdA n) o g).1) nb (markA (kdA n) o g).2:=(putM_other _ _ _ _ (Ne.symm hbn)).trans hN
 have hf:=fit_shown hs h.fit
 by_cases hb:base≤blkA n
 ·have hnd:=h.nd
  rw[blocksA_shown hs] at hnd
  have hnd2:(blkA n::frN base (blocksL (kidsO (some n)))).Nodup:=by
   have:frN base (blkA n::blocksL (kidsO (some n)))=blkA n::frN base (blocksL (kidsO (some n))):=by simp[frN,hb]
   rw[←this];exact hnd
  refine⟨putM_at a1 hs fun q hq e=>?_,t1.trans ((putM_touch w1 (blkA n) _).mono fun q hq=>Or.inl ⟨?_,?_⟩),hL.rows.trans rk,nb2⟩
  ·exact (List.nodup_cons.1 hnd2).1 (frN_mem.2 ⟨e ▸ hq,hb⟩)
  ·show base≤q
   rw[show q=blkA n from hq];exact hb
  ·show q∈blocksA n
   rw[show q=blkA n from hq,blocksA_shown hs];simp
 ·rcases hf.1 with h2 | h2
  ·exact absurd h2 hb
  ·have hm:markA (kdA n) o g=(markOf n,g):=by
    rw[h2]
    have:alikeK (kdA n) (kdA n)=true:=by cases n<;>simp[kdA,alikeK]
    simp[markA,this]
   rw[hm] at nb2 rk ⊢
   have same:=putM_same a1 hs
   refine⟨?_,t1.trans ⟨rfl,rfl,rfl,by rw[putM_size];omega,fun q _ _=>same q⟩,hL.rows.trans rk,nb2⟩
   show AnD _ D (setM n (markOf n))
   rw[setM_self hs]
   exact a1.keep rk fun b _=>same b
end Go.Proofs.YtifhgjpglicjbaaGreatDoor
namespace Go.Proofs.YtifhgjpglicjbaaGreatDoor
open Go.Proofs.Tryz
open Go.RowKit Go.Lib
attribute [local go_sem ↓] Go.wp_at_zero Go.wp_at_succ
attribute [local go_sem] nt_Node_Text_Text nt_Node_Text_Element nt_Node_Text_Keyed nt_Node_Text_Tagged nt_Node_Text_Lazy nt_Node_Element_Text nt_Node_Element_Element nt_Node_Element_Keyed nt_Node_Element_Tagged nt_Node_Element_Lazy nt_Node_Keyed_Text nt_Node_Keyed_Element nt_Node_Keyed_Keyed nt_Node_Keyed_Tagged nt_Node_Keyed_Lazy nt_Node_Tagged_Text nt_Node_Tagged_Element nt_Node_Tagged_Keyed nt_Node_Tagged_Tagged nt_Node_Tagged_Lazy nt_Node_Lazy_Text nt_Node_Lazy_Element nt_Node_Lazy_Keyed nt_Node_Lazy_Tagged nt_Node_Lazy_Lazy nt_Node_nil_Text nt_Node_nil_Element nt_Node_nil_Keyed nt_Node_nil_Tagged nt_Node_nil_Lazy nt_Shown_Text_Text nt_Shown_Text_Element nt_Shown_Text_Keyed nt_Shown_Element_Text nt_Shown_Element_Element nt_Shown_Element_Keyed nt_Shown_Keyed_Text nt_Shown_Keyed_Element nt_Shown_Keyed_Keyed nt_Shown_nil_Text nt_Shown_nil_Element nt_Shown_nil_Keyed nt_Shown_of_Text nt_Shown_of_Element nt_Shown_of_Keyed nt_Shown_of_nil
structure NI (D:Nat→Prop)(base nb:Nat)(n:An)(o:Option An)(g:Nat)(w2 wr:World)(j:Nat):Prop where
 tr:Touch (TN base nb (blocksL (kidsO (some n)))) w2 wr
 rk:RK w2 wr
 ks:AnsD wr D ((numAs (kdA n) o 0 ((kidsO (some n)).take j) g).1++(kidsO (some n)).drop j)
 nbk:NB wr nb (numAs (kdA n) o 0 ((kidsO (some n)).take j) g).2
theorem AnsD.append {w:World}{D:Nat→Prop}:∀{a b:List An},AnsD w D (a++b) ↔ AnsD w D a∧AnsD w D b
 | [],b=>by simp[AnsD]
 | x::r,b=>by simp only[List.cons_append,AnsD,AnsD.append (a:=r),and_assoc]
theorem NI.below {D:Nat→Prop}{base nb:Nat}{n:An}{o:Option An}{g:Nat}{w2 wr X:World}{j:Nat}(h:NI D base nb n o g w2 wr j)(hb:Below wr.heap.size wr X):NI D base nb n o g w2 X j :=
 ⟨h.tr.trans (Touch.of_below hb),h.rk.trans (RK.of_below hb),h.ks.below hb,(hb.block nb (block_lt h.nbk)).trans h.nbk⟩
theorem NI.start {D:Nat→Prop}{base nb:Nat}{n:An}{o:Option An}{g:Nat}{w2:World}(h:AnD w2 D n)(hn:NB w2 nb g):NI D base nb n o g w2 w2 0:=by
 refine⟨Touch.refl _ _,RK.refl _,?_,?_⟩
 ·simp only[List.take_zero,numAs,List.nil_append,List.drop_zero]
  exact kids_atD h
 ·simp only[List.take_zero,numAs]
  exact hn
theorem NI.next {D:Nat→Prop}{base nb:Nat}{n:An}{o:Option An}{g:Nat}{w2 X Y:World}{j:Nat}(h:NI D base nb n o g w2 X j)(hnd:(frN base (blocksL (kidsO (some n)))).Nodup)(hj:j<(kidsO (some n)).length){e:Ending}
  (hP:nuP D base nb (kidsO (some n))[j] (bareO (oppA (kdA n) o j)) (numAs (kdA n) o 0 ((kidsO (some n)).take j) g).2 X e Y):NI D base nb n o g w2 Y (j+1):=by
 obtain⟨_,ht,hr,ha,hn⟩:=hP
 have hap:=(kids_apart hnd j hj).2
 have htl:((kidsO (some n)).take j).length=j:=by simp;omega
 have htake:(kidsO (some n)).take (j+1)=(kidsO (some n)).take j++[(kidsO (some n))[j]]:=List.take_succ_eq_append_getElem hj
 have hk:=h.ks
 have hin:(kidsO (some n))[j]∈kidsO (some n):=List.getElem_mem hj
 have hsub:∀q∈blocksA (kidsO (some n))[j],q∈blocksL (kidsO (some n)):=(sizeL_at (List.getElem?_eq_getElem hj)).2
 have hnb:=h.nbk.notinL hk
 rw[List.drop_eq_getElem_cons hj] at hk
 have hk1:=AnsD.append.1 hk
 have hk2:=hk1.2
 rw[AnsD] at hk2
 refine⟨h.tr.trans (ht.mono fun q hq=>?_),h.rk.trans hr,?_,?_⟩
 ·rcases hq with ⟨h1,h2⟩ | h1
  ·exact Or.inl ⟨h1,hsub q h2⟩
  ·exact Or.inr h1
 ·rw[htake,numAs_snoc,htl,Nat.zero_add]
  simp only[List.append_assoc,List.singleton_append]
  refine AnsD.append.2 ⟨?_,?_⟩
  ·refine AnsD.keep hr (fun b hb=>ht.block b (hk1.1.lt b hb) fun hq=>?_) hk1.1
   rw[(numAs_blocks _ _ _ _ _).1] at hb
   rcases hq with ⟨h1,h2⟩ | h1
   ·exact (hap b h1 h2).1 hb
   ·refine hnb ?_
    rw[blocksL_append,(numAs_blocks _ _ _ _ _).1,←h1]
    exact List.mem_append_left _ hb
  ·rw[AnsD]
   refine⟨ha,AnsD.keep hr (fun b hb=>ht.block b (hk2.2.lt b hb) fun hq=>?_) hk2.2⟩
   rcases hq with ⟨h1,h2⟩ | h1
   ·exact (hap b h1 h2).2 hb
   ·refine hnb ?_
    rw[blocksL_append,List.drop_eq_getElem_cons hj,blocksL,←h1]
    exact List.mem_append_right _ (List.mem_append_right _ hb)
 ·rw[htake,numAs_snoc,htl,Nat.zero_add]
  exact hn
theorem own_block {D:Nat→Prop}{base nb:Nat}{n:An}{w2 wr:World}{m:Mk}{g:Nat}(hs:shownA n=true)(hnd:(frN base (blocksA n)).Nodup)(h2:AnD w2 D (setM n m))(hnb:NB w2 nb g)(tr:Touch (TN base nb (blocksL (kidsO (some n)))) w2 wr):wr.heap[blkA n]?=w2.heap[blkA n]?:=by
 have hb:=blocksA_shown hs
 have hv:=setM_val n m
 have hne:blkA n≠nb:=fun e=>hnb.notin h2 (by rw[blocksA_shown (by rw[hv.2.2.2.2];exact hs),hv.2.2.2.1,e];simp)
 obtain⟨c,t,h5,_⟩:=shown_block h2 (by rw[hv.2.2.2.2];exact hs)
 rw[hv.2.2.2.1] at h5
 refine tr.block _ (block_lt h5) fun hq=>?_
 rcases hq with ⟨h1,h3⟩ | h1
 ·rw[hb] at hnd
  have:frN base (blkA n::blocksL (kidsO (some n)))=blkA n::frN base (blocksL (kidsO (some n))):=by simp[frN,h1]
  rw[this] at hnd
  exact (List.nodup_cons.1 hnd).1 (frN_mem.2 ⟨h3,h1⟩)
 ·exact hne h1
theorem kind_keep {w w':World}{D:Nat→Prop}{n:An}(h:AnD w D n)(hs:shownA n=true)(hb:w'.heap[blkA n]?=w.heap[blkA n]?)(rk:RK w w'):KindAt w' n.val (kdA n):=by
 cases n with
 | txt b m s=>exact⟨b,rfl⟩
 | el b m t ats hs ks =>
  rw[AnD] at h
  obtain⟨⟨av,hv,nv,hc,h1,h2⟩,h3⟩:=h
  have h4:=hb.trans h1
  exact⟨b,rfl,by unfold World.cell?;simp only[blkA] at h4;rw[h4];rfl⟩
 | ky b m t ats hs keys ks =>
  rw[AnD] at h
  obtain⟨⟨av,hv,nv,hc,kv,h1,h2,h5⟩,h3⟩:=h
  have h4:=hb.trans h1
  simp only[blkA] at h4
  exact⟨b,kv,rfl,by unfold World.cell?;rw[h4];rfl,by unfold World.cell?;rw[h4];rfl,RowAt.tyKeep h5 rk.ks⟩
 | tg b f n=>cases hs
 | lz b f args n=>cases hs
theorem NI.done {D:Nat→Prop}{base nb:Nat}{n:An}{o:Option An}{g0 g:Nat}{w w2 wr:World}{m:Mk}(hs:shownA n=true)(hnd:(frN base (blocksA n)).Nodup)(hm:markA (kdA n) o g0=(m,g))(h2:AnD w2 D (setM n m))(ht:Touch (TN base nb (blocksA n)) w w2)(hr:RK w w2)(hnb:NB w2 nb g)(h:NI D base nb n o g w2 wr (kidsO (some n)).length)(v:Value):nuP D base nb n o g0 w (.returned v) wr:=by
 have hb:=blocksA_shown hs
 have hk:=h.ks
 rw[List.take_length,List.drop_length,List.append_nil] at hk
 have hv:=setM_val n m
 refine⟨⟨v,rfl⟩,ht.trans (h.tr.mono fun q hq=>?_),hr.trans h.rk,?_,?_⟩
 ·rcases hq with ⟨h1,h3⟩ | h1
  ·exact Or.inl ⟨h1,by rw[hb];exact List.mem_cons_of_mem _ h3⟩
  ·exact Or.inr h1
 ·rw[numA_shown hs,hm]
  refine setK_at h2 (by rw[hv.2.2.2.2];exact hs) ?_ h.rk ?_ hk
  ·rw[hv.2.2.2.1]
   exact own_block hs hnd h2 hnb h.tr
  ·rw[numAs_vals,hv.2.1]
 ·rw[numA_shown hs,hm]
  have:=h.nbk
  rw[List.take_length] at this
  exact this
theorem number_shown {D:Nat→Prop}{base nb f:Nat}(IH:NumDo D base nb f){n:An}(hsh:shownA n=true){o:Option An}{g:Nat}{w:World}(hsz:sizeA n≤f+1)(h:NP D base nb n o g w):
  Calls prog 88 #[.pointer (some ⟨nb,0,none⟩),n.val,valN o] w (nuP D base nb n o g w):=by
 have hg:=h.hg
 have hp:=sizeA_pos n
 have CF:=markFor_any (kdA n) n.val o g nb w h.an.kind h.oa h.sh h.nbk (by omega)
 have ST:Hid (∀w1,LT nb w w1→NB w1 nb (markA (kdA n) o g).2→_):=fun w1 hL hN=>put_step h hsh hL hN
 have hks:=sizeA_kids n
 have hkl:=sizeL_len (kidsO (some n))
 have hs100:=h.hs
 obtain⟨m,g1,hm⟩:∃m g1,markA (kdA n) o g=(m,g1):=⟨_,_,rfl⟩
 have hg1:=markA_le (kdA n) o g
 rw[hm] at CF ST hg1
 simp only at CF ST hg1
 have OWN:Hid (∀w2 wr,AnD w2 D (setM n m)→NB w2 nb g1→Touch (TN base nb (blocksL (kidsO (some n)))) w2 wr→wr.heap[blkA n]?=w2.heap[blkA n]?):=fun w2 wr h1 h2 h3=>own_block hsh h.nd h1 h2 h3
 have DONE:Hid (∀w2 wr v,AnD w2 D (setM n m)→Touch (TN base nb (blocksA n)) w w2→RK w w2→NB w2 nb g1→NI D base nb n o g1 w2 wr (kidsO (some n)).length→nuP D base nb n o g w (.returned v) wr):=fun w2 wr v h1 h2 h3 h4 h5=>NI.done hsh h.nd hm h1 h2 h3 h4 h5 v
 have hnd:(frN base (blocksL (kidsO (some n)))).Nodup:=by
  have:=h.nd
  rw[blocksA_shown hsh] at this
  unfold frN at this ⊢
  rw[List.filter_cons] at this
  split at this
  ·exact (List.nodup_cons.1 this).2
  ·exact this
 have NEXT:Hid (∀w2 X Y j (hj:j<(kidsO (some n)).length) e,NI D base nb n o g1 w2 X j→nuP D base nb (kidsO (some n))[j] (bareO (oppA (kdA n) o j)) (numAs (kdA n) o 0 ((kidsO (some n)).take j) g1).2 X e Y→NI D base nb n o g1 w2 Y (j+1)):=fun w2 X Y j hj e h1 h2=>h1.next hnd hj h2
 have OLD:Hid (∀w2 X j,Touch (TN base nb (blocksA n)) w w2→RK w w2→NI D base nb n o g1 w2 X j→OAt X o):=fun w2 X j h1 h2 h3=>by
  have hO:=h.oa
  refine hO.keep (h2.trans h3.rk) fun q hq b hb=>?_
  have hlt:=(h.ok q hq).2.2 b hb
  have h5:b<w.heap.size:=by
   subst hq
   exact AnD.lt (n:=q) hO b hb
  have hbb:=h.hb
  rw[h3.tr.block b (by have:=h1.size;omega) (fun hq=>by rcases hq with ⟨h6,_⟩ | h6<;>omega),h1.block b h5 (fun hq=>by rcases hq with ⟨h6,_⟩ | h6<;>omega)]
 have KID:Hid (∀w2 X j (hj:j<(kidsO (some n)).length),Touch (TN base nb (blocksA n)) w w2→RK w w2→NI D base nb n o g1 w2 X j→AnD X D (kidsO (some n))[j]∧Calls prog 88 #[.pointer (some ⟨nb,0,none⟩),(bareA (kidsO (some n))[j]).val,valN (bareO (oppA (kdA n) o j))] X (nuP D base nb (kidsO (some n))[j] (bareO (oppA (kdA n) o j)) (numAs (kdA n) o 0 ((kidsO (some n)).take j) g1).2 X)):=fun w2 X j hj h1 h2 h3=>by
  have ha:AnD X D (kidsO (some n))[j]:=by
   have hk:=h3.ks
   rw[List.drop_eq_getElem_cons hj] at hk
   have:=(AnsD.append.1 hk).2
   rw[AnsD] at this
   exact this.1
  have z1:=sizeL_take (kidsO (some n)) j hj
  have z2:=sizeL_take_le (kidsO (some n)) (j+1)
  have z3:=numAs_le (kdA n) o ((kidsO (some n)).take j) 0 g1
  refine⟨ha,IH _ _ _ X (by omega) ⟨ha,(WfA.kids h.wf).at (List.getElem?_eq_getElem hj),?_,(kids_apart hnd j hj).1,(opp_od (OLD.out w2 X j h1 h2 h3) (kdA n) j).bare,(h.ok.opp (kdA n) j).bare,fun q hq=>?_,h3.nbk,h.hb,by omega,by omega⟩⟩
  ·have:=(fit_shown hsh h.fit).2.at j hj
   rw[Nat.zero_add] at this
   exact this
  ·cases ho:oppA (kdA n) o j with
   | none=>rw[ho] at hq;cases hq
   | some x=>rw[ho] at hq;cases hq;exact bareA_shown x
 have OPP:Hid (∀X j,j<(kidsO (some n)).length→KindAt X n.val (kdA n)→OAt X o→Calls prog 126 #[n.val,valN o,.int .i64 ((j:Nat):Int)] X fun e w'=>e=.returned (valN (oppA (kdA n) o j))∧Below X.heap.size X w'):=fun X j hj h1 h2 =>
  opp_any (kdA n) n.val o j X h1 h2 (fun t keys e=>by
   have hw:=h.wf
   cases n with
   | ky b m t ats hs keys ks=>rw[WfA] at hw;cases e;simp[kidsO] at hj hkl hks;omega
   | _=>cases e) (fun e=>by cases n<;>first | ((rcases e with e | e<;>cases e);done) | cases hsh) (by omega) h.ok.bo
 obtain⟨t,hx,hmeth⟩:=shown_mark hsh
 have KIN:Hid (∀w2 X,AnD w2 D (setM n m)→Touch (TN base nb (blocksL (kidsO (some n)))) w2 X→RK w2 X→True):=fun _ _ _ _ _=>trivial
 have CM:=fun X=>Marked_any (.pointer (some ⟨blkA n,0,none⟩)) X
 have MC:Hid (∀X,LT nb w X→X.cell? ⟨blkA n,0,none⟩=some (mkN (markOf n))∧X.cell? ⟨blkA n,1,none⟩=some (mkW (markOf n))∧X.cell? ⟨blkA n,2,none⟩=some (mkS (markOf n))∧∀j,X.frozen? ⟨blkA n,j,none⟩=false):=fun X hX=>mark_cells (h.an.lt' hX fun b hb e=>h.nbk.notin h.an (e ▸ hb)) hsh
 rw[hx] at CF OPP ⊢
 clear IH h hnd KIN
 go_enter func88,ntmps88
 simp only[mkN,mkW,mkS] at CF MC
 go_wp2_with (first
  |(go_at_call 245;refine (CM _).mono ?_;rintro e w0 ⟨rfl,rfl⟩)
  |(go_at_call 125;refine CF.mono ?_;rintro e w1 ⟨rfl,hl1,hn1⟩;obtain⟨k0,k1,k2,kf⟩:=MC.out w1 hl1;have S2:Hid _:=ST.out w1 hl1 hn1;clear hl1 hn1 ST MC CF))
 obtain⟨a2,t2,r2,n2⟩:=S2.out
 have e2:(((w1.setCell ⟨blkA n,0,none⟩ (.int .i64 ((m.num:Nat):Int))).setCell ⟨blkA n,1,none⟩ (.bool m.note.isSome)).setCell ⟨blkA n,2,none⟩ (.string (bsA (m.note.getD []))))=putM w1 (blkA n) m:=rfl
 rw[e2]
 generalize putM w1 (blkA n) m=W2 at *
 clear S2 k0 k1 k2 kf e2
 have CI:=inside_any (some (setM n m)) W2 (a2.weaken fun _ _=>trivial)
 have hv:=setM_val n m
 have e3:valN (some (setM n m))=.iface t (.pointer (some ⟨blkA n,0,none⟩)):=by show (setM n m).val=_;rw[hv.1,hx]
 have INP:Hid (∀X e w',inP X (some (setM n m)) e w'→Below X.heap.size X w'∧∃ad cap,e=.returned (.slice ad (kidsO (some n)).length cap)∧SegAt w' TT 90 1 (.slice ad (kidsO (some n)).length cap) (kidsO (some n)).length ((kidsO (some n)).map An.val)):=fun X e w' h=>by
  have h:Below X.heap.size X w'∧_:=h
  rw[hv.2.1] at h
  exact h
 rw[e3] at CI
 have NI0:Hid (NI D base nb n o g1 W2 W2 0):=by
  have h0:=NI.start (base:=base) (o:=o) a2 n2
  refine⟨h0.tr.mono ?_,h0.rk,?_,?_⟩
  ·rw[hv.2.1];exact fun _ h=>h
  ·have:=h0.ks;rw[hv.2.1,hv.2.2.1] at this;exact this
  ·have:=h0.nbk;rw[hv.2.1,hv.2.2.1] at this;exact this
 have KX:Hid (∀X,RK W2 X→Touch (TN base nb (blocksL (kidsO (some n)))) W2 X→KindAt X (.iface t (.pointer (some ⟨blkA n,0,none⟩))) (kdA n)):=fun X h1 h2=>by
  have h3:=kind_keep a2 (by rw[hv.2.2.2.2];exact hsh) (by rw[hv.2.2.2.1];exact OWN.out W2 X a2 n2 h2) h1
  rw[hv.1,hv.2.2.1,hx] at h3
  exact h3
 go_wp2_with (go_at_call 66;refine CI.mono ?_;intro e w3 hin;obtain⟨hb3,ad,cap,rfl,hsg⟩:=INP.out _ _ _ hin;clear hin)
 have CELL:Hid (∀X,RK w3 X→∀j (hj:j<(kidsO (some n)).length),∃g o tn bn,ad=some ⟨g,o,none⟩∧(kidsO (some n)).length≤cap∧cap≤9223372036854775807∧X.cell? ⟨g,o+j,none⟩=some (.iface tn (.pointer (some ⟨bn,0,none⟩)))∧(kidsO (some n))[j].val=.iface tn (.pointer (some ⟨bn,0,none⟩))):=fun X hX j hj=>by
  obtain⟨g,o,h1,h2,h3,h4⟩:=seg_at (hsg.tyKeep hX.kn) hj
  obtain⟨tn,bn,hn⟩:=(kidsO (some n))[j].val_iface
  unfold maxLen at h3
  refine⟨g,o,tn,bn,h1,h2,by omega,?_,hn⟩
  rw[h4,List.getElem?_map,List.getElem?_eq_getElem hj,←hn]
  rfl
 have RK3:Hid (∀X,RK W2 X→Below W2.heap.size W2 w3→True):=fun _ _ _=>trivial
 have ST3:Hid (NI D base nb n o g1 W2 w3 0):=NI0.out.below hb3
 have FINI:Hid (∀wr v,NI D base nb n o g1 W2 wr (kidsO (some n)).length→nuP D base nb n o g w0 (.returned v) wr):=fun wr v h=>DONE.out W2 wr v a2 t2 r2 n2 h
 have STEP:Hid (∀X j (hj:j<(kidsO (some n)).length),NI D base nb n o g1 W2 X j→AnD X D (kidsO (some n))[j]∧Calls prog 126 #[.iface t (.pointer (some ⟨blkA n,0,none⟩)),valN o,.int .i64 ((j:Nat):Int)] X (fun e w'=>e=.returned (valN (oppA (kdA n) o j))∧Below X.heap.size X w')∧∀Y,Below X.heap.size X Y→OAt Y (oppA (kdA n) o j)∧Calls prog 88 #[.pointer (some ⟨nb,0,none⟩),(bareA (kidsO (some n))[j]).val,valN (bareO (oppA (kdA n) o j))] Y fun e w'=>(∃v,e=.returned v)∧NI D base nb n o g1 W2 w' (j+1)∧RK Y w'):=fun X j hj hX=>by
  have hO:=OLD.out W2 X j t2 r2 hX
  refine⟨(KID.out W2 X j hj t2 r2 hX).1,OPP.out X j hj (KX.out X hX.rk hX.tr) hO,fun Y hY=>⟨opp_od (hO.below hY) _ _,?_⟩⟩
  refine (KID.out W2 Y j hj t2 r2 (hX.below hY)).2.mono fun e w' h=>⟨h.1,NEXT.out W2 Y w' j hj e (hX.below hY) h,h.2.2.1⟩
 have RKX:Hid (∀X j,NI D base nb n o g1 W2 X j→RK w3 X→True):=fun _ _ _ _=>trivial
 have hk100:(kidsO (some n)).length≤100:=by omega
 generalize hkk:kidsO (some n)=kk at *
 clear RK3 RKX NI0 DONE KID OLD NEXT OPP KX OWN INP a2 t2 r2 n2 CI hsg hx hmeth CM
 go_loopg [18] kk.length (fun gh iv wr=>∃j:Nat,gh=kk.length-j∧iv=.int .i64 ((j:Nat):Int)∧j≤kk.length∧Aside (NI D base nb n o g1 W2 wr j∧RK w3 wr))
 case atStart=>exact⟨0,by omega,rfl,Nat.zero_le _,(show _∧_ from ⟨ST3.out,RK.refl _⟩)⟩
 case round =>
  obtain⟨j,rfl,rfl,hj,hA⟩:=hrel
  by_cases hjl:j<kk.length
  ·obtain⟨g9,o9,tn,bn,rfl,hc1,hc2,c0,hn⟩:=CELL.out wr hA.out.2 j hjl
   obtain⟨ha,CO,CN⟩:=STEP.out wr j hjl hA.out.1
   have CB:=bare_any (some kk[j]) wr (ha.weaken fun _ _=>trivial)
   have e9:valN (some kk[j])=.iface tn (.pointer (some ⟨bn,0,none⟩)):=hn
   have e8:valN (bareO (some kk[j]))=(bareA kk[j]).val:=rfl
   rw[e9,e8] at CB
   have CNX:Hid (∀Y,Below wr.heap.size wr Y→Calls prog 64 #[valN (oppA (kdA n) o j)] Y (fun e w'=>e=.returned (valN (bareO (oppA (kdA n) o j)))∧w'=Y)∧Calls prog 88 #[.pointer (some ⟨nb,0,none⟩),(bareA kk[j]).val,valN (bareO (oppA (kdA n) o j))] Y (fun e w'=>(∃v,e=.returned v)∧NI D base nb n o g1 W2 w' (j+1)∧RK wr w')):=fun Y hY=>by
    refine⟨bare_any _ Y (CN Y hY).1,(CN Y hY).2.mono fun e w' h=>⟨h.1,h.2.1,(RK.of_below hY).trans h.2.2⟩⟩
   have hji:(j:Int)<((kk.length:Nat):Int):=by omega
   have RW:Hid (RK w3 wr):=hA.out.2
   clear CN ha hA hn e9 e8
   generalize (bareA kk[j]).val=xb at *
   generalize valN (bareO (oppA (kdA n) o j))=xo at *
   generalize valN (oppA (kdA n) o j)=xp at *
   go_wp2_with (first
    |(go_at_call 64;refine CB.mono ?_;clear CB;rintro e w4 ⟨rfl,rfl⟩)
    |(go_at_call 126;refine CO.mono ?_;rintro e w5 ⟨rfl,hb5⟩;obtain⟨CB2,CN2⟩:=CNX.out w5 hb5)
    |(go_at_call 64;refine CB2.mono ?_;rintro e w6 ⟨rfl,rfl⟩)
    |(go_at_call 88;refine CN2.mono ?_;rintro e w7 ⟨⟨v7,rfl⟩,hni,hrk⟩))
   go_roundg (kk.length-(j+1))
   case measure=>omega
   case rel=>exact⟨j+1,rfl,by go_num,by omega,(show _∧_ from ⟨hni,RW.out.trans hrk⟩)⟩
  ·have hjj:j=kk.length:=by omega
   have hji:¬ (j:Int)<((kk.length:Nat):Int):=by omega
   subst hjj
   have FIN:Hid (∀v,nuP D base nb n o g w0 (.returned v) wr):=fun v=>FINI.out wr v hA.out.1
   clear hA STEP FINI
   go_wp2_with fail
   exact bodyPost_end (v:=.tuple #[]) (by simp[results,results88,go_sem]) rfl (FIN.out _)
theorem num_wrap {base nb b:Nat}{_m:An}{w w':World}{l:List Nat}(hl:b ∉ frN base l∨¬ base≤b)(hn:b≠nb)(hlt:b<w.heap.size)(ht:Touch (TN base nb l) w w'):w'.heap[b]?=w.heap[b]?:=by
 refine ht.block b hlt fun hq=>?_
 rcases hq with ⟨h1,h2⟩ | h1
 ·rcases hl with h | h
  ·exact h (frN_mem.2 ⟨h2,h1⟩)
  ·exact h h1
 ·exact hn h1
theorem frN_cons {base b:Nat}{l:List Nat}(h:(frN base (b::l)).Nodup):(frN base l).Nodup∧(b ∉ frN base l∨¬ base≤b):=by
 by_cases hb:base≤b
 ·have:frN base (b::l)=b::frN base l:=by simp[frN,hb]
  rw[this] at h
  exact⟨(List.nodup_cons.1 h).2,Or.inl (List.nodup_cons.1 h).1⟩
 ·have:frN base (b::l)=frN base l:=by simp[frN,hb]
  rw[this] at h
  exact⟨h,Or.inr hb⟩
theorem number_all (D:Nat→Prop)(base nb:Nat):∀f,NumDo D base nb f
 | 0=>fun n o g w hs _=>by have:=sizeA_pos n;omega
 | f+1=>fun n o g w hs h=>by
  have IH:=number_all D base nb f
  cases n with
  | txt b m s=>exact number_shown IH rfl hs h
  | el b m t ats hs' ks=>exact number_shown IH rfl hs h
  | ky b m t ats hs' keys ks=>exact number_shown IH rfl hs h
  | tg b f0 n =>
   have han:=h.an
   rw[AnD] at han
   have hwf:=h.wf
   rw[WfA] at hwf
   have hfit:=h.fit
   rw[Fit] at hfit
   have hnd:=h.nd
   rw[blocksA] at hnd
   have hc:=frN_cons hnd
   have h1:=h.hs
   have h2:=h.hg
   rw[sizeA] at h1 h2 hs
   have hnn:=h.nbk.notin h.an
   rw[blocksA] at hnn
   refine (IH n o g w (by omega) ⟨han.2,hwf,hfit,hc.1,h.oa,h.ok,h.sh,h.nbk,h.hb,by omega,by omega⟩).mono fun e w' hp=>?_
   obtain⟨p1,p2,p3,p4,p5⟩:=hp
   refine⟨p1,p2.mono fun q hq=>?_,p3,?_,by rw[numA];exact p5⟩
   ·rcases hq with ⟨a,c⟩ | a
    ·exact Or.inl ⟨a,by rw[blocksA];exact List.mem_cons_of_mem _ c⟩
    ·exact Or.inr a
   ·rw[numA,AnD]
    refine⟨?_,p4⟩
    rw[numA_val,num_wrap (_m:=n) hc.2 (fun e=>hnn (by rw[e];simp)) (block_lt han.1) p2]
    exact han.1
  | lz b f0 args n =>
   have han:=h.an
   rw[AnD] at han
   obtain⟨⟨sl,cs,a1,a2,a3⟩,a4⟩:=han
   have hwf:=h.wf
   rw[WfA] at hwf
   have hfit:=h.fit
   rw[Fit] at hfit
   have hnd:=h.nd
   rw[blocksA] at hnd
   have hc:=frN_cons hnd
   have h1:=h.hs
   have h2:=h.hg
   rw[sizeA] at h1 h2 hs
   have hnn:=h.nbk.notin h.an
   rw[blocksA] at hnn
   refine (IH n o g w (by omega) ⟨a4,hwf.2,hfit,hc.1,h.oa,h.ok,h.sh,h.nbk,h.hb,by omega,by omega⟩).mono fun e w' hp=>?_
   obtain⟨p1,p2,p3,p4,p5⟩:=hp
   refine⟨p1,p2.mono fun q hq=>?_,p3,?_,by rw[numA];exact p5⟩
   ·rcases hq with ⟨a,c⟩ | a
    ·exact Or.inl ⟨a,by rw[blocksA];exact List.mem_cons_of_mem _ c⟩
    ·exact Or.inr a
   ·rw[numA,AnD]
    refine⟨⟨sl,cs,?_,a2.tyKeep p3.kv,a3.tyKeep p3.kv⟩,p4⟩
    rw[numA_val,num_wrap (_m:=n) hc.2 (fun e=>hnn (by rw[e];simp)) (block_lt a1) p2]
    exact a1
theorem Number_ok (D:Nat→Prop)(base:Nat)(n:An)(o:Option An)(g:Nat)(w:World)(an:AnD w D n)(wf:WfA n)(fit:Fit base n (bareO o))(nd:(frN base (blocksA n)).Nodup)(oa:OAt w o)(ok:OldOk base o)(hb:base≤w.heap.size)(hs:sizeA n≤100)(hg:g+sizeA n≤1000000000):
  Calls prog 60 #[n.val,valN o,.int .i64 ((g:Nat):Int)] w fun e w'=>e=.returned (.int .i64 (((numA n (bareO o) g).2:Nat):Int))∧Touch (fun k=>base≤k∧k∈blocksA n) w w'∧RK w w'∧AnD w' D (numA n (bareO o) g).1:=by
 have bX:Below w.heap.size w (w.alloc (.cells #[.int .i64 ((g:Nat):Int)] 211)):=(Below.refl _ _).alloc (Nat.le_refl _) _
 have hN:NB (w.alloc (.cells #[.int .i64 ((g:Nat):Int)] 211)) w.heap.size g:=heap_alloc_new _ _
 have CN:=number_all D base w.heap.size (sizeA n) n (bareO o) g _ (Nat.le_refl _) ⟨an.below bX,wf,fit,nd,(OD.below oa bX).bare,ok.bare,fun m hm=>by
  cases o with
  | none=>cases hm
  | some x=>cases hm;exact bareA_shown x,hN,hb,hs,hg⟩
 have CB1:=bare_any (some n) _ ((an.below bX).weaken fun _ _=>trivial)
 have CB2:=bare_any o _ (OD.below oa bX)
 have e1:valN (some n)=n.val:=rfl
 have e2:valN (bareO (some n))=(bareA n).val:=rfl
 rw[e1,e2] at CB1
 have FIN:Hid (∀X,Touch (TN base w.heap.size (blocksA n)) (w.alloc (.cells #[.int .i64 ((g:Nat):Int)] 211)) X→RK (w.alloc (.cells #[.int .i64 ((g:Nat):Int)] 211)) X→AnD X D (numA n (bareO o) g).1→Touch (fun k=>base≤k∧k∈blocksA n) w X∧RK w X∧AnD X D (numA n (bareO o) g).1):=fun X h1 h2 h3=>by
  refine⟨⟨h1.os,h1.tape,h1.output,by have:=h1.size;simp at this;omega,fun q hq hne=>?_⟩,(RK.of_below bX).trans h2,h3⟩
  rw[h1.block q (by simp;omega) (fun ht=>by
   rcases ht with a | a
   ·exact hne a
   ·omega)]
  exact alloc_old _ _ _ hq
 obtain⟨tn,bn,hn⟩:=n.val_iface
 rw[hn] at CB1 ⊢
 clear an wf fit nd oa ok bX hN hs hn
 generalize (bareA n).val=xb at *
 generalize valN (bareO o)=xo at *
 generalize valN o=xp at *
 go_enter func60,ntmps60
 go_wp2_with (first
  |(go_at_call 64;refine CB1.mono ?_;clear CB1;rintro e w1 ⟨rfl,rfl⟩)
  |(go_at_call 64;refine CB2.mono ?_;clear CB2;rintro e w2 ⟨rfl,rfl⟩)
  |(go_at_call 88;refine CN.mono ?_;rintro e w3 ⟨⟨v3,rfl⟩,h1,h2,h3,h4⟩;obtain⟨d0,_⟩:=h4.facts;have FI:Hid _:=FIN.out w3 h1 h2 h3;clear h1 h2 h3 h4 FIN CN))
 go_ret
 exact⟨rfl,FI.out⟩
end Go.Proofs.YtifhgjpglicjbaaGreatDoor
namespace Go.Proofs.YtifhgjpglicjbaaGreatDoor
open Go.Proofs.Tryz
open Go.RowKit Go.Lib Go.Shelf
attribute [local go_sem ↓] Go.wp_at_zero Go.wp_at_succ
theorem laysIt:LaysM.n171 prog renL:=by
 constructor
 ·constructor
  all_goals first | kernel_rfl | (intro w;kernel_rfl)
 all_goals first | kernel_rfl | (intro w;kernel_rfl)
theorem itoa_any (z:Int)(w:World)(hz:In64 z)(ht:Pow10 w):
  Calls prog 127 #[.int .i64 z] w fun e w'=>e=.returned (.string (bsA (itoa z)))∧Below w.heap.size w w':=by
 have c:Calls prog 127 #[.int .i64 z] w _:=Any.strconv_Itoa laysIt z hz.1 hz.2 w ht
 refine c.mono fun e w' h=>⟨h.1,?_⟩
 obtain⟨k,os,rfl⟩:=h.2
 exact grow_any (Q:=fun X=>Below w.heap.size w X) (fun w o h=>h.alloc h.size o) os _ (below_drewN (Below.refl _ _) k)
theorem quote_any (s:ByteArray)(w:World)(hs:s.size≤900000)(ht:Pow10 w):
  Calls prog 90 #[.string s] w fun e w'=>e=.returned (.string (bsA (39::(s.data.toList++[39]))))∧Below w.heap.size w w':=by
 have CW:=Write_any TT (.txt s.data.toList) (.iface 193 (.string s)) w (by rw[VL];exact⟨s,rfl,rfl⟩) (by rw[okV];trivial) (by rw[wtV];simp;omega) ht
 rw[wrV] at CW
 go_enter func90,ntmps90
 go_wp2_with (go_at_call 29;refine CW.mono ?_;rintro e w1 ⟨rfl,hb1⟩)
 go_ret
 exact⟨rfl,hb1⟩
theorem bs_ext {a b:ByteArray}(h:a.data.toList=b.data.toList):a=b:=by rw[←bsA_data a,←bsA_data b,h]
theorem bsA_size (l:List UInt8):(bsA l).size=l.length:=by simp[bsA,ByteArray.size]
theorem mark_any (m:Mk)(w:World)(hm:m.num≤9000000000000000000)(hn:(m.note.getD []).length≤900000)(ht:Pow10 w):
  Calls prog 89 #[.agg #[mkN m,mkW m,mkS m]] w fun e w'=>e=.returned (.string (bsA (markT m)))∧Below w.heap.size w w':=by
 have bX:Below w.heap.size w (w.alloc (.cells #[mkN m,mkW m,mkS m] 107)):=(Below.refl _ _).alloc (Nat.le_refl _) _
 have q0:(w.alloc (.cells #[mkN m,mkW m,mkS m] 107)).heap[w.heap.size]?=some (.cells #[mkN m,mkW m,mkS m] 107):=heap_alloc_new _ _
 have CI:=itoa_any ((m.num:Nat):Int) _ (by unfold In64;omega) (ht.below bX)
 have QX:Hid (∀X,Below (w.alloc (.cells #[mkN m,mkW m,mkS m] 107)).heap.size (w.alloc (.cells #[mkN m,mkW m,mkS m] 107)) X→X.cell? ⟨w.heap.size,1,none⟩=some (mkW m)∧X.cell? ⟨w.heap.size,2,none⟩=some (mkS m)∧Below w.heap.size w X):=fun X hX=>by
  have:=(hX.block _ (block_lt q0)).trans q0
  exact⟨by unfold World.cell?;rw[this];rfl,by unfold World.cell?;rw[this];rfl,bX.trans (hX.mono bX.size)⟩
 have hlen:=Lib.itoa_length_le ((m.num:Nat):Int) (by omega) (by omega)
 have SI:Hid ((bsA (itoa ((m.num:Nat):Int))).data.toList=itoa ((m.num:Nat):Int)):=data_bsA _
 have hsi:(bsA (itoa ((m.num:Nat):Int))).size≤30:=by rw[bsA_size];omega
 cases hnote:m.note with
 | none =>
  have HT:Hid (markT m=35::itoa ((m.num:Nat):Int)):=by
   show _=_
   unfold markT
   rw[hnote]
   simp
  simp only[mkN,mkW,mkS,hnote,Option.isSome_none,Option.getD_none] at CI QX ⊢
  generalize bsA (itoa ((m.num:Nat):Int))=si at *
  clear q0 bX ht hn hnote hlen
  go_enter func89,ntmps89
  go_wp2_with (go_at_call 127;refine CI.mono ?_;rintro e w1 ⟨rfl,hb1⟩;obtain⟨d1,d2,hb2⟩:=QX.out w1 hb1)
  go_ret
  refine⟨congrArg (fun x=>Ending.returned (Value.string x)) (bs_ext ?_),hb2⟩
  rw[data_bsA,HT.out]
  simp[SI.out]
 | some t =>
  have CQ:Hid (∀X,Below w.heap.size w X→Calls prog 90 #[.string (bsA t)] X fun e w'=>e=.returned (.string (bsA (39::(t++[39]))))∧Below X.heap.size X w'):=fun X hX=>by
   have:=quote_any (bsA t) X (by rw[hnote] at hn;simp[bsA,ByteArray.size] at hn ⊢;exact hn) (ht.below hX)
   rw[data_bsA] at this
   exact this
  have HT:Hid (markT m=35::itoa ((m.num:Nat):Int)++[33]++(39::(t++[39]))):=by
   show _=_
   unfold markT
   rw[hnote]
   simp
  simp only[mkN,mkW,mkS,hnote,Option.isSome_some,Option.getD_some] at CI QX ⊢
  have SQ:Hid ((bsA (39::(t++[39]))).data.toList=39::(t++[39])):=data_bsA _
  have hsq:(bsA (39::(t++[39]))).size≤900002:=by rw[bsA_size];rw[hnote] at hn;simp at hn ⊢;exact hn
  generalize bsA (itoa ((m.num:Nat):Int))=si at *
  generalize bsA (39::(t++[39]))=sq at *
  clear q0 bX ht hn hnote hlen
  go_enter func89,ntmps89
  go_wp2_with (first
   |(go_at_call 127;refine CI.mono ?_;rintro e w1 ⟨rfl,hb1⟩;obtain⟨d1,d2,hb2⟩:=QX.out w1 hb1;have CQ1:=CQ.out w1 hb2)
   |(go_at_call 90;refine CQ1.mono ?_;rintro e w3 ⟨rfl,hb3⟩))
  go_ret
  refine⟨congrArg (fun x=>Ending.returned (Value.string x)) (bs_ext ?_),hb2.trans (hb3.mono hb2.size)⟩
  rw[data_bsA,HT.out]
  simp[SI.out,SQ.out]
end Go.Proofs.YtifhgjpglicjbaaGreatDoor
