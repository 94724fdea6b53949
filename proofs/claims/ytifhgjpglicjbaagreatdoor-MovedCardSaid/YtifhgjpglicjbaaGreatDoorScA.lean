/-
  The program: a node is written on.
-/
import Derived.Test.YtifhgjpglicjbaaGreatDoorFtH
import Derived.Test.YtifhgjpglicjbaaGreatDoorMvA
set_option maxHeartbeats 1000000
set_option maxRecDepth 8000
namespace Go.Proofs.YtifhgjpglicjbaaGreatDoor
open Go.Proofs.Tryz
open Go.RowKit Go.Lib Go.MuLone
attribute [local go_sem ↓] Go.wp_at_zero Go.wp_at_succ
def noteM (t:List UInt8)(m:Mk):Mk:=⟨m.num,some t⟩
mutual
def mrk (b:Nat)(t:List UInt8):An→An
 | .txt q m s=>.txt q (if q=b then noteM t m else m) s
 | .el q m tag ats hs ks=>.el q (if q=b then noteM t m else m) tag ats hs (mrkL b t ks)
 | .ky q m tag ats hs keys ks=>.ky q (if q=b then noteM t m else m) tag ats hs keys (mrkL b t ks)
 | .tg q f n=>.tg q f (mrk b t n)
 | .lz q f args n=>.lz q f args (mrk b t n)
def mrkL (b:Nat)(t:List UInt8):List An→List An
 | []=>[]
 | n::r=>mrk b t n::mrkL b t r
end
theorem mrk_val (b:Nat)(t:List UInt8)(n:An):(mrk b t n).val=n.val:=by cases n<;>simp[mrk,An.val]
theorem mrkL_val (b:Nat)(t:List UInt8):∀l:List An,(mrkL b t l).map An.val=l.map An.val∧(mrkL b t l).length=l.length
 | []=>by simp[mrkL]
 | n::r=>by
  have:=mrkL_val b t r
  simp[mrkL,mrk_val,this.1,this.2]
mutual
theorem mrk_facts (b:Nat)(t:List UInt8):∀n:An,blocksA (mrk b t n)=blocksA n∧sizeA (mrk b t n)=sizeA n∧(WfA n→WfA (mrk b t n))∧∀g,NmA g n→NmA g (mrk b t n)
 | .txt q m s=>by
  refine⟨by simp[mrk,blocksA],by simp[mrk,sizeA],fun h=>by simp[mrk,WfA],fun g h=>?_⟩
  rw[NmA] at h
  rw[mrk,NmA]
  split<;>exact h
 | .el q m tag ats hs ks=>by
  have:=mrkL_facts b t ks
  refine⟨by simp[mrk,blocksA,this.1],by simp[mrk,sizeA,this.2.1],fun h=>?_,fun g h=>?_⟩
  ·rw[WfA] at h
   rw[mrk,WfA]
   exact this.2.2.1 h
  ·rw[NmA] at h
   rw[mrk,NmA]
   refine⟨?_,this.2.2.2 g h.2⟩
   split<;>exact h.1
 | .ky q m tag ats hs keys ks=>by
  have:=mrkL_facts b t ks
  have hl:=(mrkL_val b t ks).2
  refine⟨by simp[mrk,blocksA,this.1],by simp[mrk,sizeA,this.2.1],fun h=>?_,fun g h=>?_⟩
  ·rw[WfA] at h
   rw[mrk,WfA]
   exact⟨by rw[hl];exact h.1,h.2.1,this.2.2.1 h.2.2⟩
  ·rw[NmA] at h
   rw[mrk,NmA]
   refine⟨?_,this.2.2.2 g h.2⟩
   split<;>exact h.1
 | .tg q f n=>by
  have:=mrk_facts b t n
  refine⟨by simp[mrk,blocksA,this.1],by simp[mrk,sizeA,this.2.1],fun h=>?_,fun g h=>?_⟩
  ·rw[WfA] at h
   rw[mrk,WfA]
   exact this.2.2.1 h
  ·rw[NmA] at h
   rw[mrk,NmA]
   exact this.2.2.2 g h
 | .lz q f args n=>by
  have:=mrk_facts b t n
  refine⟨by simp[mrk,blocksA,this.1],by simp[mrk,sizeA,this.2.1],fun h=>?_,fun g h=>?_⟩
  ·rw[WfA] at h
   rw[mrk,WfA]
   exact⟨h.1,this.2.2.1 h.2⟩
  ·rw[NmA] at h
   rw[mrk,NmA]
   exact this.2.2.2 g h
theorem mrkL_facts (b:Nat)(t:List UInt8):∀l:List An,blocksL (mrkL b t l)=blocksL l∧sizeL (mrkL b t l)=sizeL l∧(WfL l→WfL (mrkL b t l))∧∀g,NmL g l→NmL g (mrkL b t l)
 | []=>by simp[mrkL]
 | n::r=>by
  have h1:=mrk_facts b t n
  have h2:=mrkL_facts b t r
  refine⟨by simp[mrkL,blocksL,h1.1,h2.1],by simp[mrkL,sizeL,h1.2.1,h2.2.1],fun h=>?_,fun g h=>?_⟩
  ·rw[WfL] at h
   rw[mrkL,WfL]
   exact⟨h1.2.2.1 h.1,h2.2.2.1 h.2⟩
  ·rw[NmL] at h
   rw[mrkL,NmL]
   exact⟨h1.2.2.2 g h.1,h2.2.2.2 g h.2⟩
end
def putT (w:World)(b:Nat)(t:List UInt8):World:=(w.setCell ⟨b,1,none⟩ (.bool true)).setCell ⟨b,2,none⟩ (.string (bsA t))
theorem putT_other (w:World)(b:Nat)(t:List UInt8)(q:Nat)(h:q≠b):(putT w b t).heap[q]?=w.heap[q]?:=by
 unfold putT
 rw[Below.heap_setCell _ ⟨b,2,none⟩ _ q h,Below.heap_setCell _ ⟨b,1,none⟩ _ q h]
theorem putT_block {w:World}{b:Nat}{t:List UInt8}{c:Array Value}{ty:TypeId}(h:w.heap[b]?=some (.cells c ty)):(putT w b t).heap[b]?=some (.cells ((c.setIfInBounds 1 (.bool true)).setIfInBounds 2 (.string (bsA t))) ty):=set_block (j:=2) (set_block (j:=1) h (.bool true)) (.string (bsA t))
theorem putT_touch (w:World)(b:Nat)(t:List UInt8):Touch (·=b) w (putT w b t):=((Touch.refl (·=b) w).setCell (p:=⟨b,1,none⟩) (Or.inl rfl) _).setCell (p:=⟨b,2,none⟩) (Or.inl rfl) _
theorem putT_rk {w:World}{b:Nat}{t:List UInt8}{c:Array Value}{ty:TypeId}(h:w.heap[b]?=some (.cells c ty))(ht:ty≠74∧ty≠270∧ty≠160∧ty≠90∧ty≠9):RK w (putT w b t) :=
 (RK.setCell h ht _).trans (RK.setCell (set_block (j:=1) h (.bool true)) ht _)
def ShTy (ty:TypeId):Prop:=ty=216∨ty=223∨ty=225
theorem ShTy.rows {ty:TypeId}(h:ShTy ty):ty≠74∧ty≠270∧ty≠160∧ty≠90∧ty≠9:=by rcases h with rfl | rfl | rfl<;>decide
theorem shown_ty {w:World}{D:Nat→Prop}{n:An}(h:AnD w D n)(hs:shownA n=true):∃c ty,w.heap[blkA n]?=some (.cells c ty)∧ShTy ty:=by
 cases n with
 | txt b m s=>rw[AnD] at h;exact⟨_,_,h,Or.inl rfl⟩
 | el b m t ats hs ks=>rw[AnD] at h;obtain⟨⟨av,hv,nv,hc,h,h2⟩,h3⟩:=h;exact⟨_,_,h,Or.inr (Or.inl rfl)⟩
 | ky b m t ats hs keys ks=>rw[AnD] at h;obtain⟨⟨av,hv,nv,hc,kv,h,h2⟩,h3⟩:=h;exact⟨_,_,h,Or.inr (Or.inr rfl)⟩
 | tg b f n=>cases hs
 | lz b f args n=>cases hs
mutual
theorem mrk_at {w:World}{D:Nat→Prop}{b:Nat}{t:List UInt8}{c:Array Value}{ty:TypeId}(hb:w.heap[b]?=some (.cells c ty))(ht:ShTy ty):∀{n:An},AnD w D n→AnD (putT w b t) D (mrk b t n)
 | .txt q m s,h=>by
  rw[AnD] at h
  rw[mrk,AnD]
  by_cases hq:q=b
  ·subst hq
   rw[if_pos rfl]
   exact putT_block h
  ·rw[if_neg hq,putT_other _ _ _ _ hq]
   exact h
 | .el q m tag ats hs ks,h=>by
  rw[AnD] at h
  obtain⟨⟨av,hv,nv,hc,h,h2⟩,h3⟩:=h
  have hl:=mrkL_val b t ks
  rw[mrk,AnD]
  refine⟨⟨av,hv,nv,hc,?_,by rw[hl.1,hl.2];exact h2.keep ((putT_rk hb ht.rows).rkd _)⟩,mrkL_at hb ht h3⟩
  by_cases hq:q=b
  ·subst hq
   rw[if_pos rfl]
   exact putT_block h
  ·rw[if_neg hq,putT_other _ _ _ _ hq]
   exact h
 | .ky q m tag ats hs keys ks,h=>by
  rw[AnD] at h
  obtain⟨⟨av,hv,nv,hc,kv,h,h2,h4⟩,h3⟩:=h
  have hl:=mrkL_val b t ks
  have rk:=putT_rk (t:=t) hb ht.rows
  rw[mrk,AnD]
  refine⟨⟨av,hv,nv,hc,kv,?_,by rw[hl.1,hl.2];exact h2.keep (rk.rkd _),RowAt.tyKeep h4 rk.ks⟩,mrkL_at hb ht h3⟩
  by_cases hq:q=b
  ·subst hq
   rw[if_pos rfl]
   exact putT_block h
  ·rw[if_neg hq,putT_other _ _ _ _ hq]
   exact h
 | .tg q f n,h=>by
  rw[AnD] at h
  rw[mrk,AnD]
  refine⟨?_,mrk_at hb ht h.2⟩
  rw[mrk_val,putT_other _ _ _ _ fun e=>?_]
  ·exact h.1
  ·rw[←e,h.1] at hb
   cases hb
   rcases ht with e | e | e<;>revert e<;>decide
 | .lz q f args n,h=>by
  rw[AnD] at h
  obtain⟨⟨sl,cs,h1,h2,h3⟩,h4⟩:=h
  have rk:=putT_rk (t:=t) hb ht.rows
  rw[mrk,AnD]
  refine⟨⟨sl,cs,?_,h2.tyKeep rk.kv,h3.tyKeep rk.kv⟩,mrk_at hb ht h4⟩
  rw[mrk_val,putT_other _ _ _ _ fun e=>?_]
  ·exact h1
  ·rw[←e,h1] at hb
   cases hb
   rcases ht with e | e | e<;>revert e<;>decide
theorem mrkL_at {w:World}{D:Nat→Prop}{b:Nat}{t:List UInt8}{c:Array Value}{ty:TypeId}(hb:w.heap[b]?=some (.cells c ty))(ht:ShTy ty):∀{l:List An},AnsD w D l→AnsD (putT w b t) D (mrkL b t l)
 | [],_=>by rw[mrkL,AnsD];trivial
 | n::r,h=>by
  rw[AnsD] at h
  rw[mrkL,AnsD]
  exact⟨mrk_at hb ht h.1,mrkL_at hb ht h.2⟩
end
theorem AppAt.mark {w:World}{ab b:Nat}{fns:List Fn}{lk:Int}{c:AC}{a:PA}{n:An}(h:AppAt w ab fns lk c a)(hn:a.shown=some n)(hbn:b∈blocksA n){cur:Array Value}{ty:TypeId}(hb:w.heap[b]?=some (.cells cur ty))(ht:ShTy ty)(hSl:∀q,q<ab→a.S q)(t:List UInt8):
  AppAt (putT w b t) ab fns lk c { a with shown:=some (mrk b t n) }∧Below ab w (putT w b t):=by
 have hs:=h.st
 have hm:=hs.hm
 have rk:=putT_rk (t:=t) hb ht.rows
 have tch:=putT_touch w b t
 have hne:ab≠b:=fun e=>by
  rw[←e,h.blk] at hb
  cases hb
  rcases ht with e | e | e<;>revert e<;>decide
 have hab:ab<b:=by
  have:¬ b<ab:=fun hq=>hs.out.sN n hn b hbn (hSl b hq)
  omega
 have hsh:=hs.shown
 rw[hn] at hsh
 have hsh:AnD w (NQ c.qv a.foe) n:=hsh
 have mf:=mrk_facts b t n
 have hz:(putT w b t).heap.size=w.heap.size:=by simp[putT,World.setCell]
 have hlow:∀q,q<b→(putT w b t).heap[q]?=w.heap[q]?:=fun q hq=>putT_other _ _ _ _ (by omega)
 refine⟨⟨?_,⟨(hs.prog.keep fun q hq _=>hlow q (by have:q<ab:=hq.1;omega)).weaken fun q hq=>hq.1,hs.model.tyKeep rk.kv,?_,mrk_at hb ht hsh,hs.flt.same fun q hq=>hlow q (by omega),hs.num.same fun q hq=>hlow q (by omega),hm,hs.fm,hs.fq,?_,?_,hs.hq,?_⟩⟩,?_⟩
 ·have:valN (some (mrk b t n))=valN a.shown:=by rw[hn];exact mrk_val b t n
  rw[hlow ab (by omega),h.blk]
  simp only[appCells,this]
 ·obtain⟨cs,h1,h2⟩:=hs.queue
  refine⟨cs,owns_keep h1 fun q hq=>putT_other _ _ _ _ fun e=>?_,h2.tyKeep rk.kv⟩
  obtain⟨cur2,h3⟩:=owns_block h1 hq
  rw[e,hb] at h3
  cases h3
  exact ht.rows.1 rfl
 ·intro m hm'
  cases hm'
  have:=hs.ok n hn
  exact⟨mf.2.2.1 this.1,by rw[mf.2.1];exact this.2⟩
 ·intro m hm'
  cases hm'
  exact mf.2.2.2 _ (hs.nm n hn)
 ·refine⟨fun q hq=>⟨by rw[hz];exact (hs.out.keep q hq).1,?_⟩,hs.out.sA,?_,hs.out.sQ,fun q hq=>by rw[hz];exact hs.out.fo q hq⟩
  ·rw[putT_other _ _ _ _ fun e=>hs.out.sN n hn b hbn (by rw[←e];exact hq)]
   exact (hs.out.keep q hq).2
  ·intro m hm' q hq
   cases hm'
   rw[mf.1] at hq
   exact hs.out.sN n hn q hq
 ·exact⟨tch.os,tch.tape,tch.output,by rw[hz];exact Nat.le_refl _,fun q hq=>hlow q (by omega)⟩
theorem Find_ok (D:Nat→Prop)(n:An)(path:List Nat)(pv:Value)(w:World)(h:AnD w D n)(hz:sizeA n≤1000)(hp:SegAt w TT 3 1 pv path.length (pathV path))(hpl:path.length≤1000000)(hpi:∀i∈path,i≤1000000000)(fs:List (An×Tg))(y:An×Tg)(hfs:(wayA (topW n) path).map (topW n::·)=some (fs++[y])):
  Calls prog 40 #[n.val,pv] w fun e w'=>e=.returned (.tuple #[y.1.val,.nilIface])∧Below w.heap.size w w'∧shownA y.1=true∧AnD w' D y.1:=by
 have CW:Calls prog 44 #[n.val,pv] w fun e w'=>∃g o cap,e=.returned (.tuple #[.slice (some ⟨g,o,none⟩) (fs.length+1) cap,.nilIface])∧fs.length+1≤cap∧cap≤9223372036854775807∧w'.cell? ⟨g,o+fs.length*2,none⟩=some y.1.val∧fs.length≤1000∧Below w.heap.size w w'∧shownA y.1=true∧AnD w' D y.1:=by
  refine (Way_any D n path pv w h hz hp hpl hpi).mono fun e w' hq=>?_
  obtain⟨hb,⟨fs',ad,cap,cs,h1,h2,h3,h4,h5,h6⟩ | ⟨h1,_⟩⟩:=hq
  ·rw[hfs] at h1
   cases h1
   have hl:(fs++[y]).length=fs.length+1:=by simp
   rw[hl] at h2 h3 h6
   obtain⟨g,o,cap',e1,_,h7,h8,h9⟩:=h3.cell (by omega)
   cases e1
   obtain⟨tv,t1,_,_⟩:=h4.at fs.length (by simp)
   have hy:=h5 y (by simp)
   refine⟨g,o,cap,h2,h7,by unfold maxLen at h8;omega,?_,by omega,hb,hy.2.1,hy.1⟩
   rw[h9 (fs.length*2) (by omega),t1]
   simp
  ·rw[hfs] at h1
   cases h1
 obtain⟨tn,bn,hv⟩:=n.val_iface
 obtain⟨ty,by',hvy⟩:=y.1.val_iface
 rw[hv] at CW ⊢
 rw[hvy] at CW ⊢
 have FIN:Hid (∀w',Below w.heap.size w w'→shownA y.1=true→AnD w' D y.1→Below w.heap.size w w'∧shownA y.1=true∧AnD w' D y.1):=fun w' a b c=>⟨a,b,c⟩
 generalize fs.length=k at *
 clear h hp hfs hv hvy
 go_enter func40,ntmps40
 go_wp2_with fail
 refine CW.mono ?_
 rintro e w1 ⟨g,o,cap,rfl,hc1,hc2,hcl,hk,hb,hs,hA⟩
 have FI:=FIN.out w1 hb hs hA
 have FI2:Hid _:=FI
 clear FIN FI hb hs hA CW
 have hki:(k:Int)≤1000:=by omega
 have hc1i:(k:Int)+1≤(cap:Int):=by omega
 have hc2i:(cap:Int)≤9223372036854775807:=by omega
 go_wp2_with fail
 go_ret2
 exact⟨rfl,FI2.out⟩
def scP (w:World)(ab:Nat)(fns:List Fn)(c:AC)(a:PA)(n:An)(b:Nat)(t:ByteArray)(e:Ending)(w':World):Prop :=
 e=.returned .nilIface∧Below ab w w'∧AppAt w' ab fns 0 c { a with shown:=some (mrk b t.data.toList n) }
theorem Scribble_ok {fns:List Fn}{w:World}{ab:Nat}{c:AC}{a:PA}(h:AppAt w ab fns 0 c a){n:An}(hn:a.shown=some n)(path:List Nat)(pv:Value)(hp:SegAt w TT 3 1 pv path.length (pathV path))(hpl:path.length≤1000000)(hpi:∀i∈path,i≤1000000000)(fs:List (An×Tg))(y:An×Tg)(hfs:(wayA (topW n) path).map (topW n::·)=some (fs++[y]))(hy:blkA y.1∈blocksA n)(t:ByteArray)(ht:t.size≤20)(hq:t.data.toList.all quot=true)(hSl:∀q,q<ab→a.S q):
  Calls prog 21 #[.pointer (some ⟨ab,0,none⟩),pv,.string t] w (scP w ab fns c a n (blkA y.1) t):=by
 have h1:=h.lock 1
 have b1:Below ab w (w.setCell ⟨ab,0,none⟩ (.int .i32 1)):=(h.set 0 _).2.2
 have hp1:SegAt (w.setCell ⟨ab,0,none⟩ (.int .i32 1)) TT 3 1 pv path.length (pathV path):=hp.tyKeep (TyKeep.setCell h.blk (by decide) _)
 have c0:w.cell? ⟨ab,0,none⟩=some (.int .i32 0):=h.cell 0
 have f0:=h.frozen 0
 have hlt:=h1.lt
 obtain⟨W1,hW1⟩:∃W1,W1=w.setCell ⟨ab,0,none⟩ (.int .i32 1):=⟨_,rfl⟩
 rw[←hW1] at h1 b1 hp1 hlt
 have CLock:=(lock_free muLib ⟨ab,0,none⟩ _ c0 f0).mono (fun e w' (hp:_∧_)=>(⟨hp.1,hp.2.trans hW1.symm⟩:e=.returned (.tuple #[])∧w'=W1))
 have c6:W1.cell? ⟨ab,6,none⟩=some (valN a.shown):=h1.cell 6
 have hs:=h1.st.shown
 rw[hn] at hs c6
 replace hs:AnD W1 (NQ c.qv a.foe) n:=hs
 replace c6:W1.cell? ⟨ab,6,none⟩=some n.val:=c6
 have CF:=Find_ok (NQ c.qv a.foe) n path pv W1 hs (by have:=(h.st.ok n hn).2;omega) hp1 hpl hpi fs y hfs
 have CA:Hid (∀X,Calls prog 41 #[.string t,.func (.func 42) #[] #[]] X fun e w'=>e=.returned (.bool true)∧w'=X):=fun X=>by
  have:=are_isQuotable t X (by unfold maxLen;omega)
  rw[hq] at this
  exact this
 have CC:Hid (∀X,Calls prog 43 #[.string t] X fun e w'=>e=.returned (.string t)∧Below X.heap.size X w'):=fun X=>clone_any t X (by omega)
 have CM:Hid (∀X,Calls prog 245 #[.pointer (some ⟨blkA y.1,0,none⟩)] X fun e w'=>e=.returned (.pointer (some ⟨blkA y.1,0,none⟩))∧w'=X):=fun X=>Marked_any (.pointer (some ⟨blkA y.1,0,none⟩)) X
 have FIN:Hid (∀X,Below W1.heap.size W1 X→shownA y.1=true→AnD X (NQ c.qv a.foe) y.1→(∃u,X.cell? ⟨blkA y.1,1,none⟩=some u)∧(∃u,X.cell? ⟨blkA y.1,2,none⟩=some u)∧X.frozen? ⟨blkA y.1,1,none⟩=false∧X.frozen? ⟨blkA y.1,2,none⟩=false∧((X.setCell ⟨blkA y.1,1,none⟩ (.bool true)).setCell ⟨blkA y.1,2,none⟩ (.string t)).cell? ⟨ab,0,none⟩=some (.int .i32 1)∧((X.setCell ⟨blkA y.1,1,none⟩ (.bool true)).setCell ⟨blkA y.1,2,none⟩ (.string t)).frozen? ⟨ab,0,none⟩=false∧scP w ab fns c a n (blkA y.1) t (.returned .nilIface) (((X.setCell ⟨blkA y.1,1,none⟩ (.bool true)).setCell ⟨blkA y.1,2,none⟩ (.string t)).setCell ⟨ab,0,none⟩ (.int .i32 0))):=fun X hX hsy hA=>by
  have hXa:=h1.below hX
  obtain⟨cur,ty,hb,hty⟩:=shown_ty hA hsy
  obtain⟨m0,m1,m2,_⟩:=mark_cells (hA.weaken fun _ _=>trivial) hsy
  have hbs:bsA t.data.toList=t:=by apply ByteArray.ext;simp[bsA]
  have hM:=hXa.mark hn hy hb hty hSl t.data.toList
  unfold putT at hM
  rw[hbs] at hM
  have hF:=fun j=>(show X.frozen? ⟨blkA y.1,j,none⟩=false by unfold World.frozen?;rw[hb];rfl)
  refine⟨⟨_,m1⟩,⟨_,m2⟩,hF 1,hF 2,hM.1.cell 0,hM.1.frozen 0,rfl,?_,hM.1.lock 0⟩
  exact ((b1.trans (hX.mono (by omega))).trans hM.2).trans (hM.1.set 0 _).2.2
 obtain⟨tn,bn,hv⟩:=n.val_iface
 rw[hv] at CF c6
 have hti:(t.size:Int)≤20:=by omega
 have SM:Hid (shownA y.1=true→∃t',y.1.val=.iface t' (.pointer (some ⟨blkA y.1,0,none⟩))∧∀w,(Go.method 533 t' (.pointer (some ⟨blkA y.1,0,none⟩)) "Marked").run prog w=.ok (245,.pointer (some ⟨blkA y.1,0,none⟩)) w):=fun hh=>by
  obtain⟨t',e1,e2⟩:=shown_mark hh
  exact⟨t',e1,e2⟩
 generalize scP w ab fns c a n (blkA y.1) t=POST at *
 generalize blkA y.1=bb at *
 clear h h1 hp hp1 hfs hy hq hSl hs hW1 c0 f0 b1 hv
 go_enter_defers func21,ntmps21
 go_wp2_with (first
  |(go_at_call 32;refine CLock.mono ?_;clear CLock;rintro e w1 ⟨rfl,rfl⟩))
 refine CF.mono ?_
 rintro e w2 ⟨rfl,hb2,hsy,hAy⟩
 obtain⟨t',hvy,hmeth⟩:=SM.out hsy
 rw[hvy]
 have FI0:Hid (∀X,Below w2.heap.size w2 X→(∃u,X.cell? ⟨bb,1,none⟩=some u)∧(∃u,X.cell? ⟨bb,2,none⟩=some u)∧X.frozen? ⟨bb,1,none⟩=false∧X.frozen? ⟨bb,2,none⟩=false∧((X.setCell ⟨bb,1,none⟩ (.bool true)).setCell ⟨bb,2,none⟩ (.string t)).cell? ⟨ab,0,none⟩=some (.int .i32 1)∧((X.setCell ⟨bb,1,none⟩ (.bool true)).setCell ⟨bb,2,none⟩ (.string t)).frozen? ⟨ab,0,none⟩=false∧POST (.returned .nilIface) (((X.setCell ⟨bb,1,none⟩ (.bool true)).setCell ⟨bb,2,none⟩ (.string t)).setCell ⟨ab,0,none⟩ (.int .i32 0))):=fun X hX=>FIN.out X (hb2.trans (hX.mono hb2.size)) hsy (hAy.below hX)
 clear FIN SM CF c6 hvy hsy hb2 hAy
 clear y fs n hn
 go_wp2_with (first
  |(go_at_call 41;refine (CA.out _).mono ?_;rintro e w3 ⟨rfl,rfl⟩;clear CA)
  |(go_at_call 245;refine (CM.out _).mono ?_;rintro e w3 ⟨rfl,rfl⟩;clear CM)
  |(go_at_call 43;refine (CC.out _).mono ?_;rintro e w4 ⟨rfl,hb4⟩;clear CC;obtain⟨⟨u1,x1⟩,⟨u2,x2⟩,x3,x4,x5,x6,x7⟩:=FI0.out _ hb4;have FI:Hid _:=x7;clear x7 hb4 FI0))
 refine leaves_cons (f:=33) (args:=#[.pointer (some ⟨ab,0,none⟩)]) (by simp) (by simp[go_sem]) ?_
 refine (unlock_deferred muLib ⟨ab,0,none⟩ .returning _ x5 x6).mono ?_
 rintro e u' w5 ⟨rfl,rfl,rfl⟩
 refine⟨_,results_tmp rfl _ _ _,?_⟩
 have hv:∀v,v=Value.nilIface→POST (.returned v) (((w4.setCell ⟨bb,1,none⟩ (.bool true)).setCell ⟨bb,2,none⟩ (.string t)).setCell ⟨ab,0,none⟩ (.int .i32 0)):=fun v hv=>by rw[hv];exact FI.out
 exact hv _ rfl
end Go.Proofs.YtifhgjpglicjbaaGreatDoor
namespace Go.Proofs.YtifhgjpglicjbaaGreatDoor
open Go.Proofs.Tryz
open Go.RowKit Go.Lib
theorem li_blocks {w:World}{D:Nat→Prop}{b b1:Nat}{e:Ent}(h:AnD w D (liA b b1 e)):∃c nv,w.heap[b]?=some (.cells c 223)∧c[6]?=some nv∧SegAt w D 90 1 nv 1 [.iface 213 (.pointer (some ⟨b1,0,none⟩))]∧w.heap[b1]?=some (.cells #[.int .i64 ((e.2.1+1:Nat):Int),.bool false,.string (bsA []),.string (bsA e.1)] 216):=by
 rw[liA,AnD] at h
 obtain⟨⟨av,hv,nv,hc,h1,h2⟩,h3⟩:=h
 rw[AnsD,AnD] at h3
 exact⟨_,nv,h1,rfl,h2.rn,h3.1⟩
theorem li_same {w:World}{D:Nat→Prop}{b b1 b1':Nat}{e e':Ent}(h:AnD w D (liA b b1 e))(h':AnD w D (liA b b1' e')):e.1=e'.1:=by
 obtain⟨c,nv,h1,h2,h3,h4⟩:=li_blocks h
 obtain⟨c',nv',h1',h2',h3',h4'⟩:=li_blocks h'
 rw[h1] at h1'
 cases h1'
 rw[h2] at h2'
 cases h2'
 obtain⟨g,o,cap,hv,_,_,_,hc⟩:=h3.cell (by omega)
 obtain⟨g',o',cap',hv',_,_,_,hc'⟩:=h3'.cell (by omega)
 rw[hv] at hv'
 cases hv'
 have e1:=(hc 0 (by omega)).symm.trans (hc' 0 (by omega))
 simp at e1
 subst e1
 have e2:=h4.symm.trans h4'
 simp only[Option.some.injEq,Obj.cells.injEq] at e2
 have e3:=congrArg (·[3]?) e2.1
 simp at e3
 exact bsA_inj e3
theorem li_text {w:World}{D:Nat→Prop}{b b1 c c1:Nat}{e e':Ent}(h:AnD w D (liA b b1 e))(h':AnD w D (liA c c1 e')):b≠c1:=by
 obtain⟨_,nv,h1,_,_,_⟩:=li_blocks h
 obtain⟨_,_,_,_,_,h4⟩:=li_blocks h'
 intro hq
 rw[hq] at h1
 exact absurd (ty_eq h1 h4) (by decide)
theorem mrk_li {b b1 q:Nat}{t:List UInt8}{e:Ent}(h1:q≠b1):mrk q t (liA b b1 e)=liA b b1 (e.1,e.2.1,if b=q then some t else e.2.2):=by
 simp only[liA,mrk,mrkL]
 have h2:¬ b1=q:=fun h=>h1 h.symm
 by_cases hq:b=q
 ·simp[hq,noteM,h2]
 ·simp[hq,h2]
theorem mrk_KN {way:Bool}{w:World}{D:Nat→Prop}{q q1:Nat}{t:List UInt8}{e e0:Ent}{n:An}(h:KN way e n)(hA:AnD w D n)(h0:AnD w D (liA q q1 e0)):
  (e.1≠e0.1→KN way e (mrk q t n))∧(∀b b1,bareA n=liA b b1 e→b=q→KN way (e.1,e.2.1,some t) (mrk q t n)):=by
 cases way with
 | false =>
  obtain⟨b,b1,rfl⟩:=h
  have ht:=li_text h0 hA
  refine⟨fun hne=>?_,fun c c1 hc hq=>?_⟩
  ·have hb:¬ b=q:=fun hq=>by
    subst hq
    exact hne (li_same hA h0)
   rw[mrk_li ht,if_neg hb]
   exact⟨b,b1,rfl⟩
  ·have:b=c:=by simp[liA,bareA] at hc;exact hc.1
   rw[mrk_li ht,if_pos (this.trans hq)]
   exact⟨b,b1,rfl⟩
 | true =>
  obtain⟨bz,b,b1,rfl⟩:=h
  have hA':AnD w D (liA b b1 e):=by rw[lzA,AnD] at hA;exact hA.2
  have ht:=li_text h0 hA'
  refine⟨fun hne=>?_,fun c c1 hc hq=>?_⟩
  ·have hb:¬ b=q:=fun hq=>by
    subst hq
    exact hne (li_same hA' h0)
   rw[lzA,mrk,mrk_li ht,if_neg hb]
   exact⟨bz,b,b1,rfl⟩
  ·have:b=c:=by simp[lzA,liA,bareA] at hc;exact hc.1
   rw[lzA,mrk,mrk_li ht,if_pos (this.trans hq)]
   exact⟨bz,b,b1,rfl⟩
theorem mrkL_get (b:Nat)(t:List UInt8):∀(l:List An) (j:Nat),(mrkL b t l)[j]?=(l[j]?).map (mrk b t)
 | [],j=>by simp[mrkL]
 | n::r,0=>by simp[mrkL]
 | n::r,j+1=>by
  rw[mrkL]
  simpa using mrkL_get b t r j
theorem KNs.of_get {way:Bool}:∀{E:List Ent} {ns:List An},E.length=ns.length→(∀j (hj:j<E.length),∃n,ns[j]?=some n∧KN way E[j] n)→KNs way E ns
 | [],[],_,_=>KNs.nil
 | [],_::_,h,_=>by simp at h
 | _::_,[],h,_=>by simp at h
 | e::E,n::ns,h,hk=>by
  refine KNs.cons ?_ (KNs.of_get (by simpa using h) fun j hj=>?_)
  ·obtain⟨m,h1,h2⟩:=hk 0 (by simp)
   simp at h1
   rw[h1]
   exact h2
  ·obtain⟨m,h1,h2⟩:=hk (j+1) (by simpa using hj)
   exact⟨m,by simpa using h1,by simpa using h2⟩
def notE (E:List Ent)(j:Nat)(t:List UInt8):List Ent:=E.modify j fun e=>(e.1,e.2.1,some t)
theorem notE_keys (E:List Ent)(j:Nat)(t:List UInt8):(notE E j t).map (·.1)=E.map (·.1):=by
 unfold notE
 refine List.ext_getElem? fun k=>?_
 simp only[List.getElem?_map,List.getElem?_modify]
 cases E[k]? with
 | none=>rfl
 | some e=>by_cases hk:j=k<;>simp[hk]
theorem mrk_ul {way:Bool}{w:World}{D:Nat→Prop}{b:Nat}{E:List Ent}{ns:List An}(h:KNs way E ns)(hA:AnD w D (ulA b E ns))(hnd:(E.map (·.1)).Nodup)(j:Nat)(hj:j<E.length)(t:List UInt8):
  ∃q q1,(wayA (topW (ulA b E ns)) [j]).map (topW (ulA b E ns)::·)=some ([topW (ulA b E ns)]++[(liA q q1 E[j],[])])∧q∈blocksA (ulA b E ns)∧∃ns',mrk q t (ulA b E ns)=ulA b (notE E j t) ns'∧KNs way (notE E j t) ns':=by
 obtain⟨hl,hg⟩:=h.get
 obtain⟨n,hn,hk⟩:=hg j hj
 obtain⟨q,q1,hb,hq,htg,hAt⟩:=hk.bare
 have hA2:=hA
 rw[ulA,AnD] at hA2
 obtain⟨⟨av,hv,nv,hc,kv,hblk,_,_⟩,hAs⟩:=hA2
 have hAn:∀i m,ns[i]?=some m→AnD w D m:=fun i m hm=>by
  obtain⟨hi,rfl⟩:=List.getElem?_eq_some_iff.1 hm
  exact hAs.at i hi
 have h0:=hAt w D (hAn j n hn)
 refine⟨q,q1,?_,?_,mrkL q t ns,?_,?_⟩
 ·have e1:kidsO (some (topW (ulA b E ns)).1)=ns:=rfl
  have e2:(topW (ulA b E ns)).2=[]:=rfl
  simp[wayA,stepW,e1,e2,hn,hb,htg]
 ·simp only[ulA,blocksA,List.mem_cons]
  exact Or.inr ((sizeL_at hn).2 q hq)
 ·have hbq:¬ b=q:=fun e=>by
   obtain⟨c,nv',h1,_⟩:=li_blocks h0
   rw[←e] at h1
   exact absurd (ty_eq h1 hblk) (by decide)
  simp only[ulA,mrk,if_neg hbq,notE_keys]
 ·refine KNs.of_get (by rw[(mrkL_val q t ns).2,←hl];simp[notE]) fun i hi=>?_
  have hi':i<E.length:=by simpa[notE] using hi
  obtain⟨m,hm,hkm⟩:=hg i hi'
  refine⟨mrk q t m,by rw[mrkL_get,hm];rfl,?_⟩
  have hM:=mrk_KN (t:=t) hkm (hAn i m hm) h0
  by_cases hij:j=i
  ·subst hij
   rw[hn] at hm
   cases hm
   have:=hM.2 q q1 hb rfl
   simpa[notE,List.getElem_modify] using this
  ·have hne:E[i].1≠E[j].1:=fun e=>by
    rw[List.Nodup,List.pairwise_map,List.pairwise_iff_getElem] at hnd
    rcases Nat.lt_or_gt_of_ne hij with hlt | hlt
    ·exact hnd j i hj hi' hlt e.symm
    ·exact hnd i j hi' hj hlt e
   have:=hM.1 hne
   simpa[notE,List.getElem_modify,hij] using this
theorem scrib_ok {way:Bool}{ab:Nat}{w:World}{E:List Ent}{g i:Nat}(h:KyS way ab w E g i)(hnd:(E.map (·.1)).Nodup)(j:Nat)(hj:j<E.length)(hj2:j≤1000)(pv:Value)(hp:SegAt w TT 3 1 pv 1 [.int .i64 ((j:Nat):Int)])(t:ByteArray)(ht:t.size≤20)(hq:t.data.toList.all quot=true):
  Calls prog 21 #[.pointer (some ⟨ab,0,none⟩),pv,.string t] w fun e w'=>e=.returned .nilIface∧Below ab w w'∧RowsKeep w w'∧KyS way ab w' (notE E j t.data.toList) g i:=by
 obtain⟨b,ns,c,a,h⟩:=h
 have hA0:=h.app.frame h.low
 have hs:=h.app.st.shown
 rw[h.shown] at hs
 obtain⟨q,q1,e1,e2,ns',e3,e4⟩:=mrk_ul h.kn (show AnD w _ (ulA b E ns) from hs) hnd j hj t.data.toList
 refine (Scribble_ok hA0 (n:=ulA b E ns) h.shown [j] pv hp (by simp) (by simp;omega) _ _ e1 e2 t ht hq fun q hq=>Or.inl hq).mono fun e w1 ⟨he,hb1,hA1⟩=>?_
 have hA1:AppAt w1 ab (kyF way) 0 c { (a.fr w ab) with shown:=some (mrk q t.data.toList (ulA b E ns)) }:=hA1
 rw[e3] at hA1
 have hk:=hA1.kept (a:=a) (w:=w) rfl rfl
 exact⟨he,hb1,hk.1,b,ns',c,_,hA1,hk.2,rfl,e4,h.queue,h.drop,h.gr,h.lz,h.fr⟩
theorem kn_keep {way:Bool}{w w':World}{D:Nat→Prop}{e:Ent}{n:An}(h:KN way e n)(hA:AnD w D n)(kv:TyKeep 74 w w')(ka:TyKeep 270 w w')(kh:TyKeep 160 w w')(kn:TyKeep 90 w w')(hb:∀b∈blocksA n,w'.heap[b]?=w.heap[b]?):AnD w' D n:=by
 have hli:∀b b1,(∀q∈blocksA (liA b b1 e),w'.heap[q]?=w.heap[q]?)→AnD w D (liA b b1 e)→AnD w' D (liA b b1 e):=fun b b1 hq h=>by
  rw[liA,AnD] at h ⊢
  obtain⟨⟨av,hv,nv,hc,h1,h2⟩,h3⟩:=h
  rw[AnsD,AnD] at h3
  refine⟨⟨av,hv,nv,hc,by rw[hq b (by simp[liA,blocksA])];exact h1,⟨h2.ra.tyKeep ka,h2.rh.tyKeep kh,h2.hd.map fun _ _ k=>k.tyKeep kv,h2.rn.tyKeep kn⟩⟩,?_⟩
  rw[AnsD,AnD,AnsD]
  exact⟨by rw[hq b1 (by simp[liA,blocksA,blocksL])];exact h3.1,trivial⟩
 cases way with
 | false =>
  obtain⟨b,b1,rfl⟩:=h
  exact hli b b1 hb hA
 | true =>
  obtain⟨bz,b,b1,rfl⟩:=h
  rw[lzA,AnD] at hA ⊢
  obtain⟨⟨sl,cs,h1,h2,h3⟩,h4⟩:=hA
  refine⟨⟨sl,cs,by rw[hb bz (by simp[lzA,blocksA])];exact h1,h2.tyKeep kv,h3.tyKeep kv⟩,hli b b1 (fun q hq=>hb q ?_) h4⟩
  rw[lzA,blocksA]
  exact List.mem_cons_of_mem _ hq
theorem kns_keep {way:Bool}{w w':World}{D:Nat→Prop}{E:List Ent}{ns:List An}(h:KNs way E ns)(kv:TyKeep 74 w w')(ka:TyKeep 270 w w')(kh:TyKeep 160 w w')(kn:TyKeep 90 w w')(hA:AnsD w D ns)(hb:∀b∈blocksL ns,w'.heap[b]?=w.heap[b]?):AnsD w' D ns:=by
 induction h with
 | nil=>rw[AnsD];trivial
 | @cons e n E ns hk _ ih =>
  rw[AnsD] at hA ⊢
  exact⟨kn_keep hk hA.1 kv ka kh kn fun b hb'=>hb b (by rw[blocksL];exact List.mem_append_left _ hb'),ih hA.2 fun b hb'=>hb b (by rw[blocksL];exact List.mem_append_right _ hb')⟩
theorem KyS.note {way:Bool}{ab:Nat}{w:World}{E:List Ent}{g i:Nat}(h:KyS way ab w E g i){gk x:Nat}{cur:Array Value}(hk:w.heap[gk]?=some (.cells cur 9))(hgk:ab<gk)(l:List Nat)(hE:E.map (·.1)=l.map keyB)(h0:∃s:ByteArray,cur[0]?=some (.string s)∧∀k,s≠bsA (keyB k))(u:Value):KyS way ab (w.setCell ⟨gk,x,none⟩ u) E g i:=by
 obtain⟨b,ns,c,a,h⟩:=h
 have hA:=h.app
 have hs:=hA.st
 have hm:=hs.hm
 have hlt:=hA.lt
 have kt:∀t,9≠t→TyKeep t w (w.setCell ⟨gk,x,none⟩ u):=fun t ht=>TyKeep.setCell hk ht u
 have hot:∀q,q≠gk→(w.setCell ⟨gk,x,none⟩ u).heap[q]?=w.heap[q]?:=fun q hq=>Below.heap_setCell w ⟨gk,x,none⟩ u q hq
 have hz:(w.setCell ⟨gk,x,none⟩ u).heap.size=w.heap.size:=by simp[World.setCell]
 have hsh:=hs.shown
 rw[h.shown] at hsh
 have hsh:AnD w (NQ c.qv a.foe) (ulA b E ns):=hsh
 have hnb:∀q∈blocksA (ulA b E ns),q≠gk:=fun q hq e=>by
  obtain⟨c1,t,h4,h5⟩:=hsh.ty q hq
  rw[e,hk] at h4
  cases h4
  revert h5
  decide
 have hsh':AnD (w.setCell ⟨gk,x,none⟩ u) (NQ c.qv a.foe) (ulA b E ns):=by
  rw[ulA,AnD] at hsh ⊢
  obtain⟨⟨av,hv,nv,hc,kv,h1,h2,h4⟩,h3⟩:=hsh
  refine⟨⟨av,hv,nv,hc,kv,by rw[hot b (hnb b (by simp[ulA,blocksA]))];exact h1,⟨h2.ra.tyKeep (kt _ (by decide)),h2.rh.tyKeep (kt _ (by decide)),h2.hd.map fun _ _ k=>k.tyKeep (kt _ (by decide)),h2.rn.tyKeep (kt _ (by decide))⟩,?_⟩,kns_keep h.kn (kt _ (by decide)) (kt _ (by decide)) (kt _ (by decide)) (kt _ (by decide)) h3 fun q hq=>hot q (hnb q (by simp[ulA,blocksA,hq]))⟩
  refine⟨h4.1,?_⟩
  rcases h4.2 with hnil | ⟨g',cap,cur',hv',_,hh,p1,p2,p3,p4⟩
  ·exact Or.inl hnil
  ·by_cases hg:g'=gk
   ·subst hg
    rw[hk] at hh
    cases hh
    have hz0:l=[]:=by
     cases hl:l with
     | nil=>rfl
     | cons k r =>
      exfalso
      obtain⟨s,s1,s2⟩:=h0
      rw[hE,hl] at p4
      have e1:=congrArg (·[0]?) p4
      simp only[List.map_cons,List.length_cons,List.getElem?_cons_zero] at e1
      rw[List.getElem?_take_of_lt (by omega)] at e1
      have e2:cur.toList[0]?=some (.string s):=by simpa using s1
      rw[e2] at e1
      simp at e1
      exact s2 k e1
    have hEn:E.map (·.1)=[]:=by rw[hE,hz0];rfl
    refine Or.inr ⟨g',cap,cur.setIfInBounds x u,hv',trivial,set_block hk u,p1,p2,by simpa using p3,?_⟩
    rw[hEn]
    simp
   ·exact Or.inr ⟨g',cap,cur',hv',trivial,by rw[hot g' hg];exact hh,p1,p2,p3,p4⟩
 refine⟨b,ns,c,{ a with S:=(·<ab),was:=fun q=>(w.setCell ⟨gk,x,none⟩ u).heap[q]? },⟨?_,⟨(hs.prog.keep fun q hq _=>hot q (by have:q<ab:=hq.1;omega)).weaken fun q hq=>hq.1,hs.model.tyKeep (kt _ (by decide)),?_,?_,hs.flt.same fun q hq=>hot q (by omega),hs.num.same fun q hq=>hot q (by omega),hm,hs.fm,hs.fq,hs.ok,hs.nm,hs.hq,?_⟩⟩,h.low,h.shown,h.kn,h.queue,h.drop,h.gr,h.lz,h.fr⟩
 ·rw[hot ab (by omega)]
  exact hA.blk
 ·obtain⟨cs,h1,h2⟩:=hs.queue
  refine⟨cs,owns_keep h1 fun q hq=>hot q fun e=>?_,h2.tyKeep (kt _ (by decide))⟩
  obtain⟨cur2,h3⟩:=owns_block h1 hq
  rw[e] at h3
  exact absurd (ty_eq h3 hk) (by decide)
 ·show OD _ _ a.shown
  rw[h.shown]
  exact hsh'
 ·refine⟨fun q hq=>⟨by rw[hz];have:q<ab:=hq;omega,rfl⟩,fun hq=>by have:ab<ab:=hq;omega,fun n hn q hq hl=>h.low n hn q hq hl,fun q hq hl=>?_,fun q hq=>by rw[hz];exact hs.out.fo q hq⟩
  obtain⟨cs,h1,_⟩:=hs.queue
  have:=(h1.lt q hq).1
  have:q<ab:=hl
  omega
theorem knew_ok (way:Bool)(w:World)(E:Nat→Addr)(hE:Errs w E)(hG:FltG w)(hN:NumG w)(h15:15≤w.heap.size):
  Calls prog 14 #[.string (kyB2 way)] w (newP w (kyF way) (ksV [])):=by
 have L:=ky_loads way
 obtain⟨ts,rest,t1,t2,t3⟩:=L.ex
 have hs:(kyB2 way).size=(kyL way).length:=by cases way<;>kernel_rfl
 rw[←kyB_list] at t1
 rw[←hs] at t2
 exact New_ok L.ok L.un (kyB2 way) w E hE hG hN h15 (by rw[hs];cases way<;>decide +kernel) t1 t2 t3 (ksV []) (ky_init way)
theorem kfirst_ok {way:Bool}{ab:Nat}{w:World}{c:AC}{lo:Nat}(h:AppAt w ab (kyF way) 0 c (newA (ksV []) lo)):
  Calls prog 16 #[.pointer (some ⟨ab,0,none⟩)] w fun e w'=>e=.returned .nilIface∧Below ab w w'∧RowsKeep w w'∧KyS way ab w' [] 1 0:=by
 have L:=ky_loads way
 have hA0:=h.frame fun n hn=>nomatch hn
 refine (Frame_ok L.ok L.un hA0 (Or.inl rfl) (vwV way []) 10 _ 1 0 (ky_view way [] (by simp) (by simp)) (ky_first way) (by show 0≤_;omega) (by show 0≤_;omega) (by show 0≤_;omega)).mono fun e w1 ⟨n,F,he,hM,hb,hA⟩=>?_
 obtain⟨b,hn⟩:=made_first (_way:=way) hM
 have hk:=hA.kept (a:=newA (ksV []) lo) (w:=w) rfl rfl
 refine⟨he,hb,hk.1,b,[],c,_,hA,hk.2,?_,KNs.nil,rfl,rfl,?_,by show 0+0≤_;omega,rfl⟩
 ·exact congrArg (fun x=>some x.1) hn
 ·exact congrArg (fun x=>x.2) hn
structure MvI (w:World)(ab:Nat)(way:Bool)(wr:World)(i:Nat)(E:List Ent)(g gi gn:Nat):Prop where
 bel:Below w.heap.size w wr
 ky:KyS way ab wr E g i
 ids:wr.heap[gi]?=some (.cells (idC E) 3)
 nts:wr.heap[gn]?=some (.cells (ntC E) 9)
 hab:w.heap.size≤ab
 gr:g≤1+18*i
 ok:EnOk E g
 keys:∃l,OrdOk l∧E.map (·.1)=l.map keyB
structure MvM (w:World)(ab:Nat)(way:Bool)(W:World)(i:Nat)(l:List Nat)(E:List Ent)(g gi gn:Nat)(sl:Value):Prop where
 bel:Below w.heap.size w W
 ky:KyS way ab W (nxt E g (l.map keyB)).1 (nxt E g (l.map keyB)).2 (i+1)
 ids:W.heap[gi]?=some (.cells (idC E) 3)
 nts:W.heap[gn]?=some (.cells (ntC E) 9)
 row:W.ownsRow 0 3 1 sl l.length (l.map intV)
 hab:w.heap.size≤ab
 gr:g≤1+18*i
 ok:EnOk E g
 hl:OrdOk l
structure MvN (W:World)(l:List Nat)(E:List Ent)(g:Nat)(wr:World)(k:Nat):Prop where
 bel:Below W.heap.size W wr
 nx:wr.heap[W.heap.size]?=some (.cells (idC (nxt E g ((l.take k).map keyB)).1) 3)
 kp:wr.heap[W.heap.size+1]?=some (.cells (ntC (nxt E g ((l.take k).map keyB)).1) 9)
def wantT (E:List Ent)(g:Nat)(l:List Nat)(k:Nat):List UInt8:=[60,117,108,35,49,62]++entsT (nxt E g ((l.take k).map keyB)).1
def lastN (E:List Ent)(g:Nat)(l:List Nat)(k:Nat):Nat:=(nxt E g ((l.take k).map keyB)).2
theorem nxt_full (_E:List Ent)(_g:Nat)(l:List Nat):(l.take l.length).map keyB=l.map keyB:=by rw[List.take_length]
theorem want_len {E:List Ent}{g:Nat}{l:List Nat}(hl:OrdOk l)(ho:EnOk E g)(hg:g≤900000){k:Nat}(hk:k≤l.length):(wantT E g l k).length≤900∧lastN E g l k≤g+18:=by
 obtain⟨h1,h2,h3⟩:=nxt_ok (E0:=E) ho hl k hk
 have hn:=hl.len
 have:=ents_len (nxt_keys E ((l.take k).map keyB) g) (fun q hq=>hl.lt q (List.mem_of_mem_take hq)) h1 (by omega)
 have:(l.take k).length=k:=by simp;omega
 unfold wantT lastN
 simp only[List.length_append,List.length_cons,List.length_nil]
 omega
theorem MvN.old {w:World}{ab:Nat}{way:Bool}{W:World}{i:Nat}{l:List Nat}{E:List Ent}{g gi gn:Nat}{sl:Value}(hM:MvM w ab way W i l E g gi gn sl){wr:World}{k:Nat}(h:MvN W l E g wr k)(hk:k<l.length)(hp:0<idOf E l[k]):
  (∀nq,MvN W l E g ((((wr.setCell ⟨W.heap.size,l[k],none⟩ (.int .i64 ((idOf E l[k]:Nat):Int))).setCell ⟨W.heap.size+1,l[k],none⟩ (.string (bsA (ntOf E l[k]))))).drewN nq) (k+1))∧lastN E g l (k+1)=lastN E g l k∧wantT E g l (k+1)=wantT E g l k++[60,108,105,35]++itoa ((idOf E l[k]:Nat):Int)++ntOf E l[k]++[62,35]++itoa ((idOf E l[k]+1:Nat):Int)++[32,39,107]++itoa ((l[k]:Nat):Int)++[39,60,47,108,105,62]:=by
 obtain⟨t1,t2,t3,t4,t5⟩:=tab_snoc (E0:=E) (g:=g) hM.hl hk
 have hx:=hM.hl.lt _ (List.getElem_mem hk)
 obtain⟨e,hf⟩:∃e,fdE E l[k]=some e:=by
  unfold idOf at hp
  cases hf:fdE E l[k] with
  | none=>rw[hf] at hp;simp at hp
  | some e=>exact⟨e,rfl⟩
 have hid:idOf E l[k]=e.2.1:=by unfold idOf;rw[hf]
 have hnt:ntOf E l[k]=ntT e.2.2:=by unfold ntOf;rw[hf]
 rw[hf] at t1 t2 t3
 have hn1:(nx1 (keyB l[k]) (some e) (nxt E g ((l.take k).map keyB)).2)=((keyB l[k],e.2.1,e.2.2),(nxt E g ((l.take k).map keyB)).2):=rfl
 rw[hn1] at t1 t2 t3
 have hs:=h.bel.size
 have b1:=set_block (j:=l[k]) h.nx (.int .i64 ((idOf E l[k]:Nat):Int))
 refine⟨fun nq=>⟨?_,?_,?_⟩,t2,?_⟩
 ·have:=((h.bel.setCell (p:=⟨W.heap.size,l[k],none⟩) (Nat.le_refl _) (.int .i64 ((idOf E l[k]:Nat):Int))).setCell (p:=⟨W.heap.size+1,l[k],none⟩) (by show W.heap.size≤W.heap.size+1;omega) (.string (bsA (ntOf E l[k]))))
  exact below_drewN this _
 ·show ((wr.setCell ⟨W.heap.size,l[k],none⟩ (.int .i64 ((idOf E l[k]:Nat):Int))).setCell ⟨W.heap.size+1,l[k],none⟩ (.string (bsA (ntOf E l[k])))).heap[W.heap.size]?=_
  rw[Below.heap_setCell _ ⟨W.heap.size+1,l[k],none⟩ _ W.heap.size (by show W.heap.size≠W.heap.size+1;omega),b1]
  congr 2
  refine idC_set _ _ hx ?_ fun y hy hne=>?_
  ·unfold idOf
   rw[t3,hf]
  ·unfold idOf
   rw[t5 y hy hne]
 ·have b2:(wr.setCell ⟨W.heap.size,l[k],none⟩ (.int .i64 ((idOf E l[k]:Nat):Int))).heap[W.heap.size+1]?=some (.cells (ntC (nxt E g ((l.take k).map keyB)).1) 9):=by
   rw[Below.heap_setCell _ ⟨W.heap.size,l[k],none⟩ _ (W.heap.size+1) (by show W.heap.size+1≠W.heap.size;omega)]
   exact h.kp
  show ((wr.setCell ⟨W.heap.size,l[k],none⟩ (.int .i64 ((idOf E l[k]:Nat):Int))).setCell ⟨W.heap.size+1,l[k],none⟩ (.string (bsA (ntOf E l[k])))).heap[W.heap.size+1]?=_
  rw[set_block (j:=l[k]) b2 (.string (bsA (ntOf E l[k])))]
  congr 2
  refine ntC_set _ _ hx ?_ fun y hy hne=>?_
  ·unfold ntOf
   rw[t3,hf]
  ·unfold ntOf
   rw[t5 y hy hne]
 ·have e1:markT ⟨e.2.1,e.2.2⟩=35::(itoa ((e.2.1:Nat):Int)++ntT e.2.2):=by
   unfold markT ntT
   cases e.2.2<;>rfl
  unfold wantT
  rw[t1,entsT_snoc,hid,hnt]
  simp only[entT,e1,keyB]
  simp
theorem MvN.new {w:World}{ab:Nat}{way:Bool}{W:World}{i:Nat}{l:List Nat}{E:List Ent}{g gi gn:Nat}{sl:Value}(hM:MvM w ab way W i l E g gi gn sl){wr:World}{k:Nat}(h:MvN W l E g wr k)(hk:k<l.length)(hp:¬ 0<idOf E l[k]):
  (∀nq,MvN W l E g ((wr.setCell ⟨W.heap.size,l[k],none⟩ (.int .i64 ((lastN E g l k+1:Nat):Int))).drewN nq) (k+1))∧lastN E g l (k+1)=lastN E g l k+2∧wantT E g l (k+1)=wantT E g l k++[60,108,105,35]++itoa ((lastN E g l k+1:Nat):Int)++[62,35]++itoa ((lastN E g l k+1+1:Nat):Int)++[32,39,107]++itoa ((l[k]:Nat):Int)++[39,60,47,108,105,62]:=by
 obtain⟨t1,t2,t3,t4,t5⟩:=tab_snoc (E0:=E) (g:=g) hM.hl hk
 have hx:=hM.hl.lt _ (List.getElem_mem hk)
 have hf:fdE E l[k]=none:=by
  cases hf:fdE E l[k] with
  | none=>rfl
  | some e =>
   exfalso
   apply hp
   unfold idOf
   rw[hf]
   exact (hM.ok.pos e (fdE_mem hf).1).1
 rw[hf] at t1 t2 t3
 have hn1:(nx1 (keyB l[k]) none (nxt E g ((l.take k).map keyB)).2)=((keyB l[k],lastN E g l k+1,none),lastN E g l k+2):=rfl
 rw[hn1] at t1 t2 t3
 have hs:=h.bel.size
 have b1:=set_block (j:=l[k]) h.nx (.int .i64 ((lastN E g l k+1:Nat):Int))
 refine⟨fun nq=>⟨?_,?_,?_⟩,t2,?_⟩
 ·have:=(h.bel.setCell (p:=⟨W.heap.size,l[k],none⟩) (Nat.le_refl _) (.int .i64 ((lastN E g l k+1:Nat):Int)))
  exact below_drewN this _
 ·show (wr.setCell ⟨W.heap.size,l[k],none⟩ (.int .i64 ((lastN E g l k+1:Nat):Int))).heap[W.heap.size]?=_
  rw[b1]
  congr 2
  refine idC_set _ _ hx ?_ fun y hy hne=>?_
  ·unfold idOf
   rw[t3]
  ·unfold idOf
   rw[t5 y hy hne]
 ·show (wr.setCell ⟨W.heap.size,l[k],none⟩ (.int .i64 ((lastN E g l k+1:Nat):Int))).heap[W.heap.size+1]?=_
  rw[Below.heap_setCell _ ⟨W.heap.size,l[k],none⟩ _ (W.heap.size+1) (by show W.heap.size+1≠W.heap.size;omega),h.kp]
  congr 2
  refine ntC_same _ _ fun y hy=>?_
  unfold ntOf
  by_cases hne:y=l[k]
  ·rw[hne,t3,t4]
   rfl
  ·rw[t5 y hy hne]
 ·unfold wantT
  rw[t1,entsT_snoc]
  simp only[entT,markT,keyB]
  simp
theorem mv_round {w:World}{ab:Nat}{way:Bool}{wr:World}{i:Nat}{E:List Ent}{g gi gn:Nat}(h:MvI w ab way wr i E g gi gn)(hi:i<20){sl:Value}{raw:List Int}(hr:IntsAt wr sl raw)(hall:∀x∈raw,In64 x):
  Calls prog 18 #[sl] wr fun e w1=>∃(s:ByteArray) (l:List Nat) (vad:Option Addr) (vcap:Nat),e=.returned (.tuple #[.string s,.slice vad l.length vcap]) ∧
   Calls prog 19 #[.pointer (some ⟨ab,0,none⟩),.string s] w1 fun e w2=>e=.returned .nilIface ∧
   Calls prog 20 #[.pointer (some ⟨ab,0,none⟩),.int .i64 1] w2 fun e w3=>e=.returned (.int .i64 1) ∧
   Calls prog 16 #[.pointer (some ⟨ab,0,none⟩)] w3 fun e W=>e=.returned .nilIface∧MvM w ab way W i l E g gi gn (.slice vad l.length vcap):=by
 refine (order_any raw sl wr hr hall).mono fun e w1 hp=>?_
 obtain⟨v,he,hown,hb1⟩:=hp
 have hl:OrdOk (ordA [] raw):=ordA_ok ⟨by simp,by simp,by simp⟩
 generalize ordA [] raw=l at *
 obtain⟨vad,vcap,rfl⟩:=owns_slice hown
 have hgr:=h.gr
 refine⟨_,l,vad,vcap,he,?_⟩
 refine (round_ok (h.ky.below hb1) (by omega) (by omega) hl 0 (by omega)).mono fun e w2 ⟨he2,C2⟩=>⟨he2,?_⟩
 have C2':Calls prog 20 #[.pointer (some ⟨ab,0,none⟩),.int .i64 1] w2 _:=C2
 refine C2'.mono fun e w3 ⟨he3,C3⟩=>⟨he3,?_⟩
 refine C3.mono fun e W ⟨he4,hb4,hk4,hS⟩=>⟨he4,?_⟩
 have hab:=h.hab
 have hs1:=hb1.size
 have hsw:=h.bel.size
 refine⟨(h.bel.trans (hb1.mono hsw)).trans (hb4.mono hab),hS,?_,?_,?_,hab,hgr,h.ok,hl⟩
 ·have e1:=(hb1.block gi (block_lt h.ids)).trans h.ids
  rw[hk4 gi ⟨_,Or.inl e1⟩,e1]
 ·have e1:=(hb1.block gn (block_lt h.nts)).trans h.nts
  rw[hk4 gn ⟨_,Or.inr e1⟩,e1]
 ·refine owns_mono (owns_keep hown fun q hq=>?_) (Nat.zero_le _)
  obtain⟨cur,hc⟩:=owns_block hown hq
  exact hk4 q ⟨cur,Or.inl hc⟩
structure MvT (w:World)(ab:Nat)(way:Bool)(wr:World)(i:Nat)(l:List Nat)(E:List Ent)(g gi gn:Nat)(sl:Value):Prop where
 bel:Below w.heap.size w wr
 ky:KyS way ab wr E g i
 ids:wr.heap[gi]?=some (.cells (idC E) 3)
 nts:wr.heap[gn]?=some (.cells (ntC E) 9)
 row:wr.ownsRow 0 3 1 sl l.length (l.map intV)
 hab:w.heap.size≤ab
 lab:ab<gn
 gr:g≤1+18*i
 ok:EnOk E g
 hl:OrdOk l
 keys:E.map (·.1)=l.map keyB
theorem MvT.next {w:World}{ab:Nat}{way:Bool}{wr:World}{i:Nat}{l:List Nat}{E:List Ent}{g gi gn:Nat}{sl:Value}(h:MvT w ab way wr i l E g gi gn sl):MvI w ab way wr i E g gi gn :=
 ⟨h.bel,h.ky,h.ids,h.nts,h.hab,h.gr,h.ok,l,h.hl,h.keys⟩
theorem want_full {E:List Ent}{g:Nat}{l:List Nat}:wantT E g l l.length++[60,47,117,108,62]=ulT (nxt E g (l.map keyB)).1:=by
 unfold wantT ulT
 rw[List.take_length]
theorem mv_tree {w:World}{ab:Nat}{way:Bool}{W:World}{i:Nat}{l:List Nat}{E:List Ent}{g gi gn:Nat}{sl:Value}(hM:MvM w ab way W i l E g gi gn sl)(hi:i<20){wr:World}(h:MvN W l E g wr l.length):
  Calls prog 17 #[.pointer (some ⟨ab,0,none⟩)] wr fun e w'=>e=.returned (.string ((⟨(wantT E g l l.length).toArray⟩:ByteArray)++⟨#[60,47,117,108,62]⟩))∧MvT w ab way w' (i+1) l (nxt E g (l.map keyB)).1 (lastN E g l l.length) W.heap.size (W.heap.size+1) sl:=by
 have hgr:=hM.gr
 have hwl:=want_len hM.hl hM.ok (by omega) (Nat.le_refl _)
 have hno:=nxt_ok hM.ok hM.hl l.length (Nat.le_refl _)
 have eT:(⟨(wantT E g l l.length).toArray⟩:ByteArray)++⟨#[60,47,117,108,62]⟩=bsA (ulT (nxt E g (l.map keyB)).1):=by
  rw[←want_full]
  apply ByteArray.ext
  simp[bsA]
 have eL:lastN E g l l.length=(nxt E g (l.map keyB)).2:=by unfold lastN;rw[List.take_length]
 have hx:=h.nx
 have hp:=h.kp
 rw[List.take_length] at hx hp hno
 have hLn:=hM.hl.len
 rw[eT,eL]
 refine (ktree_ok (hM.ky.below h.bel) (by rw[←eL];omega) ?_).mono fun e w' ⟨he,hb,hk,hS⟩=>⟨he,?_⟩
 ·rw[←want_full]
  simp
  omega
 have hlt:=hM.ky.lt
 refine⟨((hM.bel.trans (h.bel.mono hM.bel.size)).trans (hb.mono hM.hab)),hS,?_,?_,?_,hM.hab,by omega,by rw[←eL];omega,hno.1,hM.hl,nxt_keys _ _ _⟩
 ·rw[hk _ ⟨_,Or.inl hx⟩,hx]
 ·rw[hk _ ⟨_,Or.inr hp⟩,hp]
 ·refine owns_keep hM.row fun q hq=>?_
  obtain⟨cur,hc⟩:=owns_block hM.row hq
  have e1:=h.bel.block q (block_lt hc)
  rw[hk q ⟨cur,Or.inl (e1.trans hc)⟩,e1]
theorem fdE_not {E:List Ent}{l:List Nat}(hE:E.map (·.1)=l.map keyB)(hl:OrdOk l){j:Nat}(hj:j<l.length)(t:List UInt8):(∃e,fdE E l[j]=some e∧fdE (notE E j t) l[j]=some (e.1,e.2.1,some t))∧∀y,y<12→y≠l[j]→fdE (notE E j t) y=fdE E y:=by
 have hlen:E.length=l.length:=by have:=congrArg List.length hE;simpa using this
 have hE':(notE E j t).map (·.1)=l.map keyB:=(notE_keys E j t).trans hE
 refine⟨⟨E[j]'(by omega),?_,?_⟩,fun y hy hne=>?_⟩
 ·rw[fdE_at hE hl hj,List.getElem?_eq_getElem (by omega)]
 ·rw[fdE_at hE' hl hj]
  simp[notE,List.getElem?_eq_getElem (show j<E.length by omega)]
 ·by_cases hm:y∈l
  ·obtain⟨m,hm',rfl⟩:=List.getElem_of_mem hm
   rw[fdE_at hE hl hm',fdE_at hE' hl hm']
   have hjm:j≠m:=fun e=>hne (by subst e;rfl)
   simp[notE,hjm]
  ·rw[fdE_none hE hl.lt hy hm,fdE_none hE' hl.lt hy hm]
theorem note20:∀i:Fin 20,((110::itoa ((i.1:Nat):Int)).all quot=true)∧(110::itoa ((i.1:Nat):Int)).length≤4:=by decide +kernel
theorem first_no {E:List Ent}:∃s:ByteArray,(ntC E)[0]?=some (.string s)∧∀k,s≠bsA (keyB k):=by
 refine⟨_,ntC_get E (by omega),fun k e=>?_⟩
 have e:=bsA_inj e
 unfold ntOf at e
 split at e
 ·rename_i x _
  unfold ntT at e
  split at e
  ·simp[keyB] at e
  ·simp[keyB] at e
 ·simp[keyB] at e
theorem mv_scr {w:World}{ab:Nat}{way:Bool}{wr:World}{i:Nat}{l:List Nat}{E:List Ent}{g gi gn:Nat}{sl:Value}(h:MvT w ab way wr (i+1) l E g gi gn sl)(hi:i<20){j:Nat}(hj:j<l.length){X:World}(hX:Below wr.heap.size wr X){p:Nat}(hp:X.heap[p]?=some (.cells #[.int .i64 ((j:Nat):Int)] 3)):
  Calls prog 21 #[.pointer (some ⟨ab,0,none⟩),.slice (some ⟨p,0,none⟩) 1 1,.string ((⟨#[110]⟩:ByteArray)++⟨(itoa ((i:Nat):Int)).toArray⟩)] X fun e w3=>e=.returned .nilIface∧(∃u,w3.cell? ⟨gn,l[j],none⟩=some u)∧w3.frozen? ⟨gn,l[j],none⟩=false∧MvI w ab way (w3.setCell ⟨gn,l[j],none⟩ (.string ((⟨#[33,39,110]⟩:ByteArray)++⟨(itoa ((i:Nat):Int)).toArray⟩++⟨#[39]⟩))) (i+1) (notE E j (110::itoa ((i:Nat):Int))) g gi gn:=by
 have hlen:E.length=l.length:=by have:=congrArg List.length h.keys;simpa using this
 have n20:=note20 ⟨i,hi⟩
 have hx:=h.hl.lt _ (List.getElem_mem hj)
 have hLn:=h.hl.len
 have et:((⟨#[110]⟩:ByteArray)++⟨(itoa ((i:Nat):Int)).toArray⟩)=bsA (110::itoa ((i:Nat):Int)):=by
  apply ByteArray.ext
  simp[bsA]
 have ed:(bsA (110::itoa ((i:Nat):Int))).data.toList=110::itoa ((i:Nat):Int):=by simp[bsA]
 have es:((⟨#[33,39,110]⟩:ByteArray)++⟨(itoa ((i:Nat):Int)).toArray⟩++⟨#[39]⟩)=bsA (ntT (some (110::itoa ((i:Nat):Int)))):=by
  apply ByteArray.ext
  simp[bsA,ntT]
 rw[et,es]
 have hnd:(E.map (·.1)).Nodup:=by rw[h.keys];exact keys_nodup h.hl
 have hseg:SegAt X TT 3 1 (.slice (some ⟨p,0,none⟩) 1 1) 1 [.int .i64 ((j:Nat):Int)]:=⟨rfl,Or.inr ⟨p,0,1,_,rfl,trivial,hp,Nat.le_refl _,by unfold maxLen;omega,by simp,by simp⟩⟩
 refine (scrib_ok (h.ky.below hX) hnd j (by omega) (by omega) _ hseg (bsA (110::itoa ((i:Nat):Int))) ?_ (by rw[ed];exact n20.1)).mono fun e w3 ⟨he,hb,hk,hS⟩=>⟨he,?_⟩
 ·have:(bsA (110::itoa ((i:Nat):Int))).size=(110::itoa ((i:Nat):Int)).length:=by show (110::itoa ((i:Nat):Int)).toArray.size=_;simp
  rw[this]
  have:=n20.2
  show (110::itoa ((i:Nat):Int)).length≤20
  have h2:(110::itoa ((i:Nat):Int)).length≤4:=this
  omega
 rw[ed] at hS
 have i1:=(hX.block gi (block_lt h.ids)).trans h.ids
 have i2:=(hX.block gn (block_lt h.nts)).trans h.nts
 have j1:=(hk gi ⟨_,Or.inl i1⟩).trans i1
 have j2:=(hk gn ⟨_,Or.inr i2⟩).trans i2
 have hne:gi≠gn:=fun e=>by
  rw[e] at j1
  exact absurd (ty_eq j1 j2) (by decide)
 obtain⟨⟨e0,f1,f2⟩,f3⟩:=fdE_not h.keys h.hl hj (110::itoa ((i:Nat):Int))
 have hk':(notE E j (110::itoa ((i:Nat):Int))).map (·.1)=l.map keyB:=(notE_keys E j _).trans h.keys
 refine⟨⟨_,(cell_of j2 l[j]).trans (ntC_get E hx)⟩,frozen_of j2 _,?_,?_,?_,?_,h.hab,h.gr,⟨fun e he=>?_⟩,l,h.hl,hk'⟩
 ·have hlt:=h.ky.lt
  have:=(h.bel.trans (hX.mono h.bel.size)).trans (hb.mono h.hab)
  exact this.setCell (p:=⟨gn,l[j],none⟩) (by show w.heap.size≤gn;have:=h.lab;have:=h.hab;omega) _
 ·exact hS.note j2 h.lab l hk' first_no _
 ·rw[Below.heap_setCell _ ⟨gn,l[j],none⟩ _ gi hne,j1]
  congr 2
  unfold idC
  congr 1
  refine List.map_congr_left fun y hy=>?_
  have hy:y<12:=by simpa using hy
  have:idOf E y=idOf (notE E j (110::itoa ((i:Nat):Int))) y:=by
   unfold idOf
   by_cases hyj:y=l[j]
   ·rw[hyj,f1,f2]
   ·rw[f3 y hy hyj]
  rw[this]
 ·rw[set_block j2]
  congr 2
  refine ntC_set _ _ hx ?_ fun y hy hne=>?_
  ·unfold ntOf
   rw[f2]
  ·unfold ntOf
   rw[f3 y hy hne]
 ·unfold notE at he
  obtain⟨q,hq,rfl⟩:=List.getElem_of_mem he
  have hq':q<E.length:=by simpa using hq
  rw[List.getElem_modify]
  have hp:=h.ok.pos E[q] (List.getElem_mem _)
  split
  ·exact⟨hp.1,hp.2.1,fun t ht=>by cases ht;exact n20.2⟩
  ·exact hp
end Go.Proofs.YtifhgjpglicjbaaGreatDoor
