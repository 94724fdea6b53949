/-
  Frames, the program: a lazy node that is what it was; counting.
-/
import Derived.Test.YtifhgjpglicjbaaGreatDoorReN
set_option maxHeartbeats 4000000
set_option maxRecDepth 8000
namespace Go.Proofs.YtifhgjpglicjbaaGreatDoor
open Go.Proofs.Tryz
open Go.RowKit Go.Lib
attribute [local go_sem ↓] Go.wp_at_zero Go.wp_at_succ
structure LT (lb:Nat)(w w':World):Prop where
 touch:Touch (·=lb) w w'
 rows:RK w w'
theorem LT.refl (lb:Nat)(w:World):LT lb w w:=⟨Touch.refl _ _,RK.refl _⟩
theorem LT.trans {lb:Nat}{a b c:World}(h:LT lb a b)(k:LT lb b c):LT lb a c:=⟨h.touch.trans k.touch,h.rows.trans k.rows⟩
theorem LT.of_below {lb:Nat}{w w':World}(h:Below w.heap.size w w'):LT lb w w':=⟨Touch.of_below h,RK.of_below h⟩
theorem LT.size {lb:Nat}{w w':World}(h:LT lb w w'):w.heap.size≤w'.heap.size:=h.touch.size
theorem NumG.same {w w':World}(h:NumG w)(hs:∀q,q<15→w'.heap[q]?=w.heap[q]?):NumG w':=by
 obtain⟨h1,⟨a,b,h2⟩,⟨c,d,h3⟩⟩:=h
 refine⟨?_,⟨a,b,by rw[World.cell?_of_block (w:=w) (hs _ (by decide))];exact h2⟩,⟨c,d,by rw[World.cell?_of_block (w:=w) (hs _ (by decide))];exact h3⟩⟩
 unfold Pow10 Lib.TabIs World.var? at h1 ⊢
 have hg:prog.globalNamed "internal/strconv.uint64pow10" = some 10:=by kernel_rfl
 rw[hg] at h1 ⊢
 simp only[Option.bind_some] at h1 ⊢
 rw[hs _ (by decide)]
 exact h1
theorem FltG.same {w w':World}(h:FltG w)(hs:∀q,q<15→w'.heap[q]?=w.heap[q]?):FltG w':=by
 obtain⟨h1,a,h2⟩:=h
 exact⟨by rw[World.cell?_of_block (w:=w) (hs _ (by decide))];exact h1,a,by rw[World.cell?_of_block (w:=w) (hs _ (by decide))];exact h2⟩
structure LK (w:World)(lb:Nat)(fns:List Fn)(c z:Nat):Prop where
 blk:∃(ad:Option Addr) (n cap:Nat),w.heap[lb]?=some (.cells #[.slice ad n cap,.int .i64 ((c:Nat):Int),.int .i64 ((z:Nat):Int)] 206)∧ProgAt w (·<lb) (.slice ad n cap) fns
 flt:FltG w
 num:NumG w
 hm:15≤lb
theorem LK.lt {w:World}{lb c z:Nat}{fns:List Fn}(h:LK w lb fns c z):lb<w.heap.size:=by
 obtain⟨_,_,_,hb,_⟩:=h.blk
 exact block_lt hb
theorem LK.same {w w':World}{lb c z:Nat}{fns:List Fn}(h:LK w lb fns c z)(hs:∀q,q≤lb→w'.heap[q]?=w.heap[q]?):LK w' lb fns c z:=by
 obtain⟨ad,n,cap,h1,h3⟩:=h.blk
 have hm:=h.hm
 exact⟨⟨ad,n,cap,by rw[hs lb (Nat.le_refl _)];exact h1,(h3.keep fun q hq _=>hs q (by have:q<lb:=hq;omega)).weaken fun q hq=>hq.1⟩,h.flt.same fun q hq=>hs q (by omega),h.num.same fun q hq=>hs q (by omega),hm⟩
theorem LK.below {w w':World}{lb c z:Nat}{fns:List Fn}(h:LK w lb fns c z)(hb:Below w.heap.size w w'):LK w' lb fns c z:=h.same fun q hq=>hb.block q (by have:=h.lt;omega)
theorem LK.facts {w:World}{lb c z:Nat}{fns:List Fn}(h:LK w lb fns c z):∃(ad:Option Addr) (n cap:Nat),w.cell? ⟨lb,0,none⟩=some (.slice ad n cap)∧w.cell? ⟨lb,1,none⟩=some (.int .i64 ((c:Nat):Int))∧w.cell? ⟨lb,2,none⟩=some (.int .i64 ((z:Nat):Int))∧(∀j,w.frozen? ⟨lb,j,none⟩=false)∧ProgAt w (·<lb) (.slice ad n cap) fns:=by
 obtain⟨ad,n,cap,h1,h3⟩:=h.blk
 refine⟨ad,n,cap,?_,?_,?_,?_,h3⟩
 ·unfold World.cell?;rw[h1];rfl
 ·unfold World.cell?;rw[h1];rfl
 ·unfold World.cell?;rw[h1];rfl
 ·intro j
  unfold World.frozen?;rw[h1];rfl
theorem LK.set {w:World}{lb c z:Nat}{fns:List Fn}(h:LK w lb fns c z)(j:Nat)(hj:j=1∨j=2)(k:Nat):LK (w.setCell ⟨lb,j,none⟩ (.int .i64 ((k:Nat):Int))) lb fns (if j=1 then k else c) (if j=1 then z else k)∧LT lb w (w.setCell ⟨lb,j,none⟩ (.int .i64 ((k:Nat):Int))):=by
 obtain⟨ad,n,cap,h1,h3⟩:=h.blk
 have ht:Touch (·=lb) w (w.setCell ⟨lb,j,none⟩ (.int .i64 ((k:Nat):Int))):=(Touch.refl (·=lb) w).setCell (p:=⟨lb,j,none⟩) (Or.inl rfl) _
 refine⟨⟨⟨ad,n,cap,?_,?_⟩,h.flt.same (fun q hq=>ht.block q (by have:=h.hm;have:=h.lt;omega) (by show ¬ q=lb;have:=h.hm;omega)),h.num.touch ht h.hm,h.hm⟩,ht,RK.setCell h1 (by decide) _⟩
 ·rw[set_block h1]
  rcases hj with rfl | rfl<;>rfl
 ·exact (h3.keep fun q hq hlt=>ht.block q hlt (by show ¬ q=lb;have:q<lb:=hq;omega)).weaken fun q hq=>hq.1
theorem count_ok {lb c z:Nat}{fns:List Fn}(m:Nat)(w:World)(h:LK w lb fns c z)(hc:c+m≤100):
  Calls prog 122 #[.pointer (some ⟨lb,0,none⟩),.int .i64 ((m:Nat):Int)] w fun e w'=>e=.returned .nilIface∧LT lb w w'∧LK w' lb fns (c+m) z∧w'.heap.size=w.heap.size:=by
 obtain⟨ad,n,cap,c0,c1,c2,cf,_⟩:=h.facts
 have f1:=cf 1
 obtain⟨K1,T1⟩:=h.set 1 (Or.inl rfl) (c+m)
 have hz:(w.setCell ⟨lb,1,none⟩ (.int .i64 (((c+m:Nat)):Int))).heap.size=w.heap.size:=by simp[World.setCell]
 have FIN:Hid (∀(i:Int),i=((c+m:Nat):Int)→LT lb w (w.setCell ⟨lb,1,none⟩ (.int .i64 i))∧LK (w.setCell ⟨lb,1,none⟩ (.int .i64 i)) lb fns (c+m) z∧(w.setCell ⟨lb,1,none⟩ (.int .i64 i)).heap.size=w.heap.size):=fun i hi=>by subst hi;exact⟨T1,K1,hz⟩
 have e1:(c:Int)+(m:Int)≤100:=by omega
 clear h cf K1 T1 hz
 go_enter func122,ntmps122
 go_wp2
 go_ret
 refine⟨rfl,FIN.out _ ?_⟩
 omega
theorem bs_dec (g:List UInt8)(f:ByteArray):((bsA g).toList==f.toList)=decide (g=f.data.toList):=by
 rw[←bsA_data f,bsA_eq,data_bsA]
 by_cases h:g=f.data.toList<;>simp[h]
theorem isOf_any {b:Nat}{g:List UInt8}{as0:List PV}{n:An}{w:World}(h:AnAt w (.lz b g as0 n))(hf:∀v∈as0,Fine v)(hal:as0.length≤1000000)(f:ByteArray)(args:List PV)(sl:Value)(cs:List Value)(hs:SegAt w TT 74 1 sl args.length cs)(hv:VLs w TT args cs):
  Calls prog 193 #[.pointer (some ⟨b,0,none⟩),.string f,sl] w fun e w'=>e=.returned (.bool (decide (g=f.data.toList)&&sameVs as0 args))∧Below w.heap.size w w':=by
 rw[AnAt,AnD] at h
 obtain⟨⟨sv,ds,h1,h2,h3⟩,h4⟩:=h
 have c0:w.cell? ⟨b,0,none⟩=some (.string (bsA g)):=by unfold World.cell?;rw[h1];rfl
 have c1:w.cell? ⟨b,1,none⟩=some sv:=by unfold World.cell?;rw[h1];rfl
 have hwt:=wtVs_fine as0 hf
 have CE:=equal_of (same_all TT (wtVs as0) (by omega)) as0 args sv sl ds cs w (Nat.le_refl _) (by omega) h2 h3 hs hv
 have hq:=bs_dec g f
 obtain⟨ad,cap,rfl⟩:=h2.slice
 obtain⟨bd,cap2,rfl⟩:=hs.slice
 generalize sameVs as0 args=R at *
 clear h1 h2 h3 h4 hs hv hf
 by_cases hg:g=f.data.toList
 ·rw[decide_eq_true hg] at hq ⊢
  clear hg
  go_enter func193,ntmps193
  go_wp2_with (go_at_call 217;refine CE.mono ?_;rintro e w1 ⟨rfl,hb⟩)
  go_ret
  exact⟨by simp,hb⟩
 ·rw[decide_eq_false hg] at hq ⊢
  clear hg
  go_enter func193,ntmps193
  go_wp2_with fail
  go_ret
  exact⟨by simp,Below.refl _ _⟩
theorem TyKeep.fresh {t:TypeId}{w X:World}(h:TyKeep t w X){B j:Nat}(hB:w.heap.size≤B)(u:Value):TyKeep t w (X.setCell ⟨B,j,none⟩ u):=fun g cur e=>by
 rw[Below.heap_setCell X ⟨B,j,none⟩ u g (by have:=block_lt e;show g≠B;omega)]
 exact h g cur e
theorem RK.fresh {w X:World}(h:RK w X){B j:Nat}(hB:w.heap.size≤B)(u:Value):RK w (X.setCell ⟨B,j,none⟩ u):=⟨h.kv.fresh hB u,h.ka.fresh hB u,h.kh.fresh hB u,h.kn.fresh hB u,h.ks.fresh hB u⟩
theorem LT.fresh {lb:Nat}{w X:World}(h:LT lb w X){B j:Nat}(hB:w.heap.size≤B)(u:Value):LT lb w (X.setCell ⟨B,j,none⟩ u):=⟨h.touch.setCell (p:=⟨B,j,none⟩) (Or.inr hB) u,h.rows.fresh hB u⟩
theorem LT.below {lb:Nat}{w X Y:World}(h:LT lb w X)(hb:Below X.heap.size X Y):LT lb w Y:=h.trans (.of_below hb)
theorem LT.drew {lb:Nat}{w X:World}(h:LT lb w X):LT lb w X.drew:=h.below ((Below.refl _ _).drew)
theorem LT.alloc {lb:Nat}{w X:World}(h:LT lb w X)(o:Obj):LT lb w (X.alloc o):=h.below ((Below.refl _ _).alloc (Nat.le_refl _) o)
theorem AnD.lt' {w w':World}{D:Nat→Prop}{lb:Nat}{n:An}(h:AnD w D n)(hl:LT lb w w')(hb:∀b∈blocksA n,b≠lb):AnD w' D n:=AnD.keep hl.rows (fun b hq=>hl.touch.block b (h.lt b hq) (hb b hq)) h
theorem AnsD.lt' {w w':World}{D:Nat→Prop}{lb:Nat}{n:List An}(h:AnsD w D n)(hl:LT lb w w')(hb:∀b∈blocksL n,b≠lb):AnsD w' D n:=AnsD.keep hl.rows (fun b hq=>hl.touch.block b (h.lt b hq) (hb b hq)) h
theorem OD.lt' {w w':World}{D:Nat→Prop}{lb:Nat}{o:Option An}(h:OD w D o)(hl:LT lb w w')(hb:OldOk lb o):OD w' D o:=by
 cases o with
 | none=>trivial
 | some n=>exact AnD.lt' h hl fun b hq=>by have:=(hb n rfl).2.2 b hq;omega
theorem OD.in {w:World}{D:Nat→Prop}{o:Option An}(h:OD w D o):OD w (fun k=>D k∧k<w.heap.size) o:=by
 cases o with
 | none=>trivial
 | some n=>exact AnD.in h
mutual
theorem AnD.ne_row {w:World}{D:Nat→Prop}{g:Nat}{cur:Array Value}(hg:w.heap[g]?=some (.cells cur 90)):∀{n:An},AnD w D n→g ∉ blocksA n
 | .txt b m s,h,hq=>by
  rw[AnD] at h
  simp[blocksA] at hq
  subst hq
  rw[hg] at h
  cases h
 | .el b m t ats hs ks,h,hq=>by
  rw[AnD] at h
  obtain⟨⟨av,hv,nv,hc,h1,h2⟩,h3⟩:=h
  simp[blocksA] at hq
  rcases hq with rfl | hq
  ·rw[hg] at h1;cases h1
  ·exact AnsD.ne_row hg h3 hq
 | .ky b m t ats hs keys ks,h,hq=>by
  rw[AnD] at h
  obtain⟨⟨av,hv,nv,hc,kv,h1,h2⟩,h3⟩:=h
  simp[blocksA] at hq
  rcases hq with rfl | hq
  ·rw[hg] at h1;cases h1
  ·exact AnsD.ne_row hg h3 hq
 | .tg b f n,h,hq=>by
  rw[AnD] at h
  simp[blocksA] at hq
  rcases hq with rfl | hq
  ·rw[hg] at h;cases h.1
  ·exact AnD.ne_row hg h.2 hq
 | .lz b f args n,h,hq=>by
  rw[AnD] at h
  obtain⟨⟨sl,cs,h1,h2,h3⟩,h4⟩:=h
  simp[blocksA] at hq
  rcases hq with rfl | hq
  ·rw[hg] at h1;cases h1
  ·exact AnD.ne_row hg h4 hq
theorem AnsD.ne_row {w:World}{D:Nat→Prop}{g:Nat}{cur:Array Value}(hg:w.heap[g]?=some (.cells cur 90)):∀{l:List An},AnsD w D l→g ∉ blocksL l
 | [],_,hq=>by simp[blocksL] at hq
 | n::r,h,hq=>by
  rw[AnsD] at h
  simp[blocksL] at hq
  rcases hq with hq | hq
  ·exact AnD.ne_row hg h.1 hq
  ·exact AnsD.ne_row hg h.2 hq
end
theorem AnsD.snoc {w:World}{D:Nat→Prop}{n:An}(hn:AnD w D n):∀{l:List An},AnsD w D l→AnsD w D (l++[n])
 | [],_=>by simp[AnsD,hn]
 | a::r,h=>by
  rw[AnsD] at h
  rw[List.cons_append,AnsD]
  exact⟨h.1,AnsD.snoc hn h.2⟩
theorem blocksL_snoc (l:List An)(n:An):blocksL (l++[n])=blocksL l++blocksA n:=by
 induction l with
 | nil=>simp[blocksL]
 | cons a r ih=>simp[blocksL,ih]
theorem owns_block {w:World}{base:Nat}{v:Value}{n:Nat}{xs:List Value}{t:TypeId}(h:w.ownsRow base t 1 v n xs){g:Nat}(hg:v.ownBlock=some g):∃cur,w.heap[g]?=some (.cells cur t):=by
 rcases (RowAt.of_owns h).2 with ⟨rfl,_⟩ | ⟨g',cur,n',rfl,h1,h2,h3⟩
 ·cases hg
 ·cases hg
  exact⟨_,h2⟩
theorem grow_rkd {D:Nat→Prop}{X w7:World}{base:Nat}{nv nv':Value}{k:Nat}{xs:List Value}{o:Obj}(own:X.ownsRow base 90 1 nv k xs)(hg:(X.alloc o).grownBy w7 nv.ownBlock)(hob:nv'.ownBlock=nv.ownBlock∨nv'.ownBlock=some (X.alloc o).heap.size):
  RKD X (fun q=>D q∧nv.ownBlock≠some q) w7 (fun q=>D q∧nv'.ownBlock≠some q)∧(∀q,q<X.heap.size→nv.ownBlock≠some q→w7.heap[q]?=X.heap[q]?):=by
 have hO:∀q,q<X.heap.size→nv.ownBlock≠some q→w7.heap[q]?=X.heap[q]?:=fun q hq hne=>by
  rw[hg.block q (by simp;omega) (fun e=>hne e.symm)]
  exact alloc_old _ _ _ hq
 have hT:∀t,t≠90→TyKeep t X w7:=fun t ht q cur e=>by
  rw[hO q (block_lt e) fun he=>by
   obtain⟨cur2,h2⟩:=owns_block own he
   rw[h2] at e
   cases e
   exact ht rfl]
  exact e
 have hS:∀t v n ys,SegAt X (fun q=>D q∧nv.ownBlock≠some q) t 1 v n ys→SegAt w7 (fun q=>D q∧nv'.ownBlock≠some q) t 1 v n ys:=fun t v n ys hs=>by
  refine (hs.keep (w':=w7) fun q hq hlt=>hO q hlt hq.2).weaken fun q hq=>⟨hq.1.1,?_⟩
  rcases hob with h2 | h2
  ·rw[h2];exact hq.1.2
  ·rw[h2]
   intro e
   have:=hq.2
   simp at e
   omega
 exact⟨⟨hS _,hT _ (by decide),hT _ (by decide),hS _,hT _ (by decide)⟩,hO⟩
structure EI (D:Nat→Prop)(lb:Nat)(w X:World)(nv:Value)(ns:List An)(F:List Nat):Prop where
 own:X.ownsRow w.heap.size 90 1 nv ns.length (ns.map An.val)
 kids:AnsD X (fun k=>D k∧nv.ownBlock≠some k) ns
 lt:LT lb w X
 fresh:∀b∈F,w.heap.size≤b∧b<X.heap.size
 nodup:F.Nodup
 blocks:∀b∈blocksL ns,b∈F∨b<lb
theorem EI.start (D:Nat→Prop)(lb:Nat)(w:World):EI D lb w w (.slice none 0 0) [] []:=⟨World.ownsRow_nil _ _ _ _,by rw[AnsD];trivial,.refl _ _,by simp,by simp,by simp[blocksL]⟩
theorem EI.add {D:Nat→Prop}{lb:Nat}{w X X1 w7:World}{nv nv':Value}{ns:List An}{n:An}{F F2:List Nat}{o:Obj}(h:EI D lb w X nv ns F)(hlb:lb<w.heap.size)
  (hL:LT lb X X1) (hn:AnD X1 (fun k=>D k∧nv.ownBlock≠some k) n) (hF:∀b∈F2,X.heap.size≤b∧b<X1.heap.size) (hN:F2.Nodup) (hB:∀b∈blocksA n,b∈F2∨b<lb)
  (own7:w7.ownsRow w.heap.size 90 1 nv' (ns.length+1) (ns.map An.val++[n.val])) (hg:(X1.alloc o).grownBy w7 nv.ownBlock) (hob:nv'.ownBlock=nv.ownBlock∨nv'.ownBlock=some (X1.alloc o).heap.size) :
  EI D lb w w7 nv' (ns++[n]) (F++F2):=by
 have hX:=h.lt.size
 have own1:X1.ownsRow w.heap.size 90 1 nv ns.length (ns.map An.val):=owns_keep h.own fun q hq=>by
  have hq2:=h.own.lt q hq
  exact hL.touch.block q hq2.2 (by show ¬ q=lb;omega)
 have k1:AnsD X1 (fun k=>D k∧nv.ownBlock≠some k) ns:=h.kids.lt' hL fun b hb=>by
  rcases h.blocks b hb with hb | hb
  ·have:=h.fresh b hb;omega
  ·omega
 obtain⟨hR,hO⟩:=grow_rkd (D:=D) own1 hg hob
 have hs7:X1.heap.size≤w7.heap.size:=by have:=hg.size;simp at this;omega
 have k2:=AnsD.snoc hn k1
 have hsz:=hL.size
 refine⟨by rw[List.length_append,List.map_append];exact own7,AnsD.map hR (fun b hb=>hO b (k2.lt b hb) fun e=>?_) k2,?_,?_,?_,?_⟩
 ·obtain⟨cur,hc⟩:=owns_block own1 e
  exact AnsD.ne_row hc k2 hb
 ·have hT:=h.lt.trans hL
  refine⟨⟨hg.os.trans hT.touch.os,hg.tape.trans hT.touch.tape,hg.output.trans hT.touch.output,by omega,fun q hq hne=>?_⟩,?_⟩
  ·rw[hO q (by omega) fun e=>by have:=(own1.lt q e).1;omega]
   exact hT.touch.block q hq hne
  ·have hk:∀t,TyKeep t w X1→TyKeep t w w7:=fun t ht q cur e=>by
    have hq:=block_lt e
    rw[hO q (by omega) fun e=>by have:=(own1.lt q e).1;omega]
    exact ht q cur e
   exact⟨hk _ hT.rows.kv,hk _ hT.rows.ka,hk _ hT.rows.kh,hk _ hT.rows.kn,hk _ hT.rows.ks⟩
 ·intro b hb
  rcases List.mem_append.1 hb with hb | hb
  ·have:=h.fresh b hb;omega
  ·have:=hF b hb;omega
 ·refine List.nodup_append.2 ⟨h.nodup,hN,fun a ha b hb e=>?_⟩
  have:=h.fresh a ha
  have:=hF b hb
  omega
 ·intro b hb
  rw[blocksL_snoc] at hb
  rcases List.mem_append.1 hb with hb | hb
  ·rcases h.blocks b hb with hb | hb
   ·exact Or.inl (List.mem_append_left _ hb)
   ·exact Or.inr hb
  ·rcases hB b hb with hb | hb
   ·exact Or.inl (List.mem_append_right _ hb)
   ·exact Or.inr hb
theorem AnsD.get {w:World}{D:Nat→Prop}{l:List An}(h:AnsD w D l){i:Nat}{n:An}(e:l[i]?=some n):AnD w D n:=by
 obtain⟨hi,rfl⟩:=List.getElem?_eq_some_iff.1 e
 exact h.at i hi
theorem opp_od {w:World}{D:Nat→Prop}{o:Option An}(h:OD w D o)(k:Kd)(i:Nat):OD w D (oppA k o i):=by
 cases hn:oppA k o i with
 | none=>trivial
 | some n =>
  show AnD w D n
  unfold oppA at hn
  split at hn
  ·split at hn
   ·have h:AnD w D _:=h
    rw[AnD] at h
    exact h.2.get hn
   ·cases hn
  ·split at hn
   ·have h:AnD w D _:=h
    rw[AnD] at h
    obtain⟨q,_,hn⟩:=Option.bind_eq_some_iff.1 hn
    obtain⟨j,_,hn⟩:=Option.bind_eq_some_iff.1 hn
    exact h.2.get hn
   ·cases hn
  ·have h:AnD w D _:=h
   rw[AnD] at h
   cases hn
   exact h.2
  ·have h:AnD w D _:=h
   rw[AnD] at h
   cases hn
   exact h.2
  ·cases hn
def lkP (D:Nat→Prop)(lb:Nat)(fns:List Fn)(w:World)(k:Ln)(c z:Nat)(e:Ending)(w':World):Prop :=
 LT lb w w'∧LK w' lb fns c z∧∃n F,e=.returned (.tuple #[n.val,.nilIface])∧AnD w' D n∧Made k n F∧F.Nodup∧(∀b∈F,w.heap.size≤b∧b<w'.heap.size)∧∀b∈blocksA n,b∈F∨b<lb
def LDo (fns:List Fn)(lb f:Nat):Prop:=∀(D:Nat→Prop) (c z:Nat) (v:PV) (o:Option An) (k:Ln) (c' z':Nat) (x:Value) (w:World),lookA fns f c z v o=some (k,c',z')→z≤c→LK w lb fns c z→(∀g,w.heap.size≤g→D g)→VL w D v x→Fine v→OD w D o→OldOk lb o →
 Calls prog 87 #[.pointer (some ⟨lb,0,none⟩),x,valN o] w (lkP D lb fns w k c' z')
theorem KindAt.lt' {w w':World}{x:Value}{k:Kd}{lb c z:Nat}{fns:List Fn}(h:KindAt w x k)(hl:LT lb w w')(hK:LK w lb fns c z):KindAt w' x k:=by
 obtain⟨ad,n,cap,h1,_⟩:=hK.blk
 have h3:w.cell? ⟨lb,3,none⟩=none:=by unfold World.cell?;rw[h1];rfl
 have hne:∀b v,w.cell? ⟨b,3,none⟩=some v→¬ b=lb:=fun b v hc e=>by rw[e,h3] at hc;cases hc
 cases k with
 | txt=>exact h
 | el t=>obtain⟨b,h1,h2⟩:=h;exact⟨b,h1,hl.touch.cell h2 (hne b _ h2)⟩
 | ky t keys=>obtain⟨b,kv,h1,h2,h3,h4⟩:=h;exact⟨b,kv,h1,hl.touch.cell h2 (hne b _ h2),hl.touch.cell h3 (hne b _ h2),RowAt.tyKeep h4 hl.rows.ks⟩
 | tg=>exact h
 | lz=>exact h
theorem again_ok {D:Nat→Prop}{lb c z:Nat}{fns:List Fn}{b:Nat}{g:List UInt8}{as0:List PV}{n:An}(w:World)(h:LK w lb fns c z)(hn:AnD w D (.lz b g as0 n))(hO:OldOk lb (some (.lz b g as0 n)))(hc:c+(sizeA (.lz b g as0 n)-1)≤100):
  Calls prog 194 #[.pointer (some ⟨lb,0,none⟩),.pointer (some ⟨b,0,none⟩)] w (lkP D lb fns w (.old (.lz b g as0 n)) (c+(sizeA (.lz b g as0 n)-1)) z):=by
 have hz:=(hO _ rfl).2.1
 have hp:=sizeA_pos (.lz b g as0 n)
 have CS:=size_any _ (.lz b g as0 n) w (Nat.le_refl _) (by omega) (hn.weaken fun _ _=>trivial)
 have hv:(An.lz b g as0 n).val=.iface 229 (.pointer (some ⟨b,0,none⟩)):=rfl
 rw[hv] at CS
 have CC:Hid (∀X,Below w.heap.size w X→∀i:Int,i=(((sizeA (.lz b g as0 n)-1:Nat)):Int)→Calls prog 122 #[.pointer (some ⟨lb,0,none⟩),.int .i64 i] X fun e w'=>e=.returned .nilIface∧LT lb X w'∧LK w' lb fns (c+(sizeA (.lz b g as0 n)-1)) z):=fun X hX i hi=>by
  subst hi
  exact (count_ok _ X (h.below hX) hc).mono fun e w' h=>⟨h.1,h.2.1,h.2.2.1⟩
 have FIN:Hid (∀X Y,Below w.heap.size w X→LT lb X Y→LK Y lb fns (c+(sizeA (.lz b g as0 n)-1)) z→lkP D lb fns w (.old (.lz b g as0 n)) (c+(sizeA (.lz b g as0 n)-1)) z (.returned (.tuple #[.iface 229 (.pointer (some ⟨b,0,none⟩)),.nilIface])) Y):=fun X Y hX hY hK=>by
  have hL:LT lb w Y:=(LT.of_below hX).trans hY
  refine⟨hL,hK,.lz b g as0 n,[],rfl,hn.lt' hL fun q hq=>?_,by rw[Made];exact⟨rfl,rfl⟩,by simp,by simp,fun q hq=>Or.inr ((hO _ rfl).2.2 q hq)⟩
  have:=(hO _ rfl).2.2 q hq
  omega
 generalize hs:sizeA (.lz b g as0 n)=sz at *
 clear hn hO h hv hs
 have e1:((sz-1:Nat):Int)=(sz:Int)-1:=by omega
 go_enter func194,ntmps194
 go_wp2_with (first
  |(go_at_call 218;refine CS.mono ?_;rintro e w1 ⟨rfl,hb1⟩)
  |(go_at_call 122;refine (CC.out _ hb1 _ (by omega)).mono ?_;rintro e w2 ⟨rfl,hl2,hk2⟩))
 go_ret2
 exact FIN.out _ _ hb1 hl2 hk2
theorem Tryz.infoNNode:(prog.info? 90).map (fun i=>(i.zero,i.size,i.bytes))=some (some .nilIface,1,16):=by kernel_rfl
theorem lookL_step {S:LkS}{k:Kd}{o:Option An}{i c z:Nat}{v:PV}{r:List PV}{ns:List Ln}{c' z':Nat}(h:lookL S k o i c z (v::r)=some (ns,c',z')):
  ∃n c1 z1 ms,S c z v (oppA k o i)=some (n,c1,z1)∧lookL S k o (i+1) c1 z1 r=some (ms,c',z')∧ns=n::ms:=by
 rw[lookL] at h
 cases e:S c z v (oppA k o i) with
 | none=>rw[e] at h;cases h
 | some x =>
  obtain⟨n,c1,z1⟩:=x
  rw[e] at h
  simp only at h
  cases e2:lookL S k o (i+1) c1 z1 r with
  | none=>rw[e2] at h;cases h
  | some y =>
   obtain⟨ns2,c2,z2⟩:=y
   rw[e2] at h
   simp only[Option.some.injEq,Prod.mk.injEq] at h
   obtain⟨rfl,rfl,rfl⟩:=h
   exact⟨n,c1,z1,ns2,rfl,e2,rfl⟩
def eaP (D:Nat→Prop)(lb:Nat)(fns:List Fn)(w:World)(ks:List Ln)(c z:Nat)(e:Ending)(w':World):Prop :=
 LT lb w w'∧LK w' lb fns c z∧∃ns F nv,e=.returned (.tuple #[nv,.nilIface])∧SegAt w' D 90 1 nv ns.length (ns.map An.val)∧AnsD w' D ns∧MadeL ks ns F∧F.Nodup∧(∀b∈F,w.heap.size≤b∧b<w'.heap.size)∧∀b∈blocksL ns,b∈F∨b<lb
theorem VL.rk {w w':World}{D:Nat→Prop}{v:PV}{x:Value}(h:VL w D v x)(hk:RK w w'):VL w' D v x:=h.tyKeep hk.kv
structure EL (fns:List Fn)(lb f:Nat)(k:Kd)(o:Option An)(l:List PV)(w X:World)(D:Nat→Prop)(j c z:Nat)(rest:List Ln)(c' z':Nat):Prop where
 lk:LK X lb fns c z
 hz:z≤c
 hc:c≤100
 eq:lookL (lookA fns f) k o j c z (l.drop j)=some (rest,c',z')
theorem EL.next {fns:List Fn}{lb f:Nat}{k:Kd}{o:Option An}{l:List PV}{w X:World}{D:Nat→Prop}{j c z:Nat}{rest:List Ln}{c' z':Nat}(h:EL fns lb f k o l w X D j c z rest c' z')(hj:j<l.length):
  ∃n c1 z1 ms,rest=n::ms∧lookA fns f c z l[j] (oppA k o j)=some (n,c1,z1)∧c1≤100∧∀Y,LK Y lb fns c1 z1→EL fns lb f k o l w Y D (j+1) c1 z1 ms c' z':=by
 have h1:=h.eq
 rw[List.drop_eq_getElem_cons hj] at h1
 obtain⟨n,c1,z1,ms,e1,e2,e3⟩:=lookL_step h1
 have hg:=lookA_good fns f _ _ _ _ _ _ _ e1
 have:=h.hz
 exact⟨n,c1,z1,ms,e3,e1,hg.2.1,fun Y hY=>⟨hY,by omega,hg.2.1,e2⟩⟩
theorem each_of {fns:List Fn}{lb f:Nat}(IH:LDo fns lb f)(D:Nat→Prop)(k:Kd)(xin:Value)(o:Option An)(l:List PV)(ad:Option Addr)(cap:Nat)(cs:List Value)(c z:Nat)(ks:List Ln)(c' z':Nat)(w:World)
  (he:lookL (lookA fns f) k o 0 c z l=some (ks,c',z')) (hz:z≤c) (hc:c≤100) (hK:LK w lb fns c z) (hD:∀g,w.heap.size≤g→D g) (hseg:SegAt w D 74 1 (.slice ad l.length cap) l.length cs) (hvs:VLs w D l cs) (hf:∀v∈l,Fine v) (hll:l.length≤1000)
  (hk:KindAt w xin k) (hkn:(∃t,k=.el t)∨∃t keys,k=.ky t keys∧keys.length=l.length) (hO:OD w D o) (hOk:OldOk lb o) :
  Calls prog 191 #[.pointer (some ⟨lb,0,none⟩),.slice ad l.length cap,xin,valN o] w (eaP D lb fns w ks c' z'):=by
 have hlb:=hK.lt
 have hli:((l.length:Nat):Int)≤1000:=by omega
 have CELL:Hid (∀j (hj:j<l.length),∃g q x,ad=some ⟨g,q,none⟩∧l.length≤cap∧cap≤9223372036854775807∧(∀X,LT lb w X→X.cell? ⟨g,q+j,none⟩=some x)∧(∀X,LT lb w X→VL X (fun q=>D q∧q<w.heap.size) l[j] x)):=fun j hj=>by
  obtain⟨y,hy,hvy⟩:=hvs.at j hj
  obtain⟨g,q,cp,hcap,_,hc1,hc2,hcell⟩:=hseg.cell (by omega)
  cases hcap
  unfold maxLen at hc2
  refine⟨g,q,y,rfl,hc1,by omega,fun X hX=>?_,fun X hX=>VL.rk (hvy.map fun _ _ _ k=>k.keep fun _ _ _=>rfl) hX.rows⟩
  obtain⟨g',q',cp',hcap',_,_,_,hcell'⟩:=(hseg.tyKeep hX.rows.kv).cell (by omega)
  cases hcap'
  have:=hcell' j (by omega)
  rw[hy] at this
  exact this
 have OPP:Hid (∀j,j<l.length→∀X c1 z1,LT lb w X→LK X lb fns c1 z1→Calls prog 126 #[xin,valN o,.int .i64 ((j:Nat):Int)] X fun e w'=>e=.returned (valN (oppA k o j))∧Below X.heap.size X w'):=fun j hj X c1 z1 hX hX2 =>
  opp_any k xin o j X (hk.lt' hX hK) ((hO.lt' hX hOk).weaken fun _ _=>trivial) (fun t keys e=>by
   rcases hkn with ⟨t',e'⟩ | ⟨t',keys',e',hlen⟩
   ·rw[e'] at e;cases e
   ·rw[e'] at e;cases e;omega) (fun e=>by
   rcases hkn with ⟨t',e'⟩ | ⟨t',keys',e',hlen⟩<;>(rw[e'] at e;rcases e with e | e<;>cases e)) (by omega) hOk.bo
 have LOOK:Hid (∀(nv:Value) (X Y:World) (j c1 z1:Nat) (hj:j<l.length) (n:Ln) (c2 z2:Nat) (x:Value),lookA fns f c1 z1 l[j] (oppA k o j)=some (n,c2,z2)→z1≤c1→LT lb w X→LK X lb fns c1 z1→Below X.heap.size X Y→(∀g,nv.ownBlock=some g→w.heap.size≤g∧g<X.heap.size)→VL Y (fun q=>D q∧q<w.heap.size) l[j] x →
   Calls prog 87 #[.pointer (some ⟨lb,0,none⟩),x,valN (oppA k o j)] Y (lkP (fun q=>D q∧nv.ownBlock≠some q) lb fns Y n c2 z2)):=fun nv X Y j c1 z1 hj n c2 z2 x h1 h2 h3 h4 h5 h6 h7=>by
  have hs:=h3.size
  have hs5:=h5.size
  refine IH _ c1 z1 l[j] _ n c2 z2 x Y h1 h2 (h4.below h5) (fun g hg=>⟨hD g (by omega),fun e=>by have:=h6 g e;omega⟩) (h7.weaken fun q hq=>⟨hq.1,fun e=>by have:=h6 q e;have:=hq.2;omega⟩) (hf _ (List.getElem_mem hj)) ?_ (hOk.opp k j)
  have h8:OD Y (fun q=>D q∧q<w.heap.size) o:=(hO.in.lt' h3 hOk).below h5
  have h9:OD Y (fun q=>D q∧nv.ownBlock≠some q) o:=h8.weaken fun q hq=>⟨hq.1,fun e=>by have:=h6 q e;omega⟩
  exact opp_od h9 k j
 have ST:EL fns lb f k o l w w D 0 c z ks c' z':=⟨hK,hz,hc,by simpa using he⟩
 have KS:Hid (ks.length=l.length):=(lookL_good (lookA_good fns f) hc he).2.2.1
 clear IH he hz hc hK hseg hvs hf hk hkn hO hOk
 go_enter func191,ntmps191
 go_wp2_with fail
 go_loopg [10,17] l.length (fun gh nv iv wr=>∃(j c1 z1:Nat) (kd rest:List Ln) (ns:List An) (F:List Nat),gh=l.length-j∧iv=.int .i64 ((j:Nat):Int)∧j≤l.length∧Aside (ns.length=j∧ks=kd++rest∧MadeL kd ns F)∧Aside (EI D lb w wr nv ns F)∧Aside (EL fns lb f k o l w wr D j c1 z1 rest c' z'))
 case atStart =>
  exact⟨0,c,z,[],ks,[],[],by omega,rfl,Nat.zero_le _,(show _∧_∧_ from ⟨rfl,rfl,by rw[MadeL];exact⟨rfl,rfl⟩⟩),(show EI D lb w w _ [] [] from EI.start D lb w),(show EL fns lb f k o l w w D 0 c z ks c' z' from ST)⟩
 case round =>
  obtain⟨j,c1,z1,kd,rest,ns,F,rfl,rfl,hj,hA,hE,hL⟩:=hrel
  have hns:ns.length≤1000:=by have:=hA.out.1;omega
  have own:=hE.out.own
  obtain⟨na,nc,rfl⟩:=owns_slice own
  by_cases hjl:j<l.length
  ·obtain⟨g,q,x,rfl,hc1,hc2,hcell,hvx⟩:=CELL.out j hjl
   have c0:=hcell wr hE.out.lt
   obtain⟨n,c2,z2,ms,e1,e2,hc100,hnext⟩:=hL.out.next hjl
   have CO:=OPP.out j hjl wr c1 z1 hE.out.lt hL.out.lk
   have hx:=hvx wr hE.out.lt
   have CL:Hid (∀Y,Below wr.heap.size wr Y→Calls prog 87 #[.pointer (some ⟨lb,0,none⟩),x,valN (oppA k o j)] Y (lkP (fun q=>D q∧(Value.slice na ns.length nc).ownBlock≠some q) lb fns Y n c2 z2)):=fun Y hY=>LOOK.out _ wr Y j c1 z1 hjl n c2 z2 x e2 hL.out.hz hE.out.lt hL.out.lk hY (fun g hg=>own.lt g hg) (hx.below hY)
   have NEXT:Hid (∀(Y Y2:World) (m:An) (F2:List Nat) (nv':Value) (w7:World) (ob:Obj),Below wr.heap.size wr Y→LT lb Y Y2→LK Y2 lb fns c2 z2→AnD Y2 (fun q=>D q∧(Value.slice na ns.length nc).ownBlock≠some q) m→Made n m F2→F2.Nodup→(∀b∈F2,Y.heap.size≤b∧b<Y2.heap.size)→(∀b∈blocksA m,b∈F2∨b<lb) →
     w7.ownsRow w.heap.size 90 1 nv' (ns.length+1) (ns.map An.val++[m.val])→(Y2.alloc ob).grownBy w7 (Value.slice na ns.length nc).ownBlock→(nv'.ownBlock=(Value.slice na ns.length nc).ownBlock∨nv'.ownBlock=some (Y2.alloc ob).heap.size) →
     (ns++[m]).length=j+1∧ks=(kd++[n])++ms∧MadeL (kd++[n]) (ns++[m]) (F++F2)∧EI D lb w w7 nv' (ns++[m]) (F++F2)∧EL fns lb f k o l w w7 D (j+1) c2 z2 ms c' z'):=fun Y Y2 m F2 nv' w7 ob hY hY2 hK2 hm hMd hN hF hB h7 hg7 hob=>by
    have hLT:LT lb wr Y2:=(LT.of_below hY).trans hY2
    have hys:=hY.size
    have hEI:=hE.out.add hlb hLT hm (fun b hb=>by have:=hF b hb;omega) hN hB h7 hg7 hob
    refine⟨by simp[hA.out.1],by rw[hA.out.2.1,e1];simp,hA.out.2.2.snoc hMd,hEI,hnext w7 ?_⟩
    have hlt2:=hK2.lt
    exact hK2.same fun q hq=>by
     rw[hg7.block q (by simp;omega) (fun e=>by have:=own.lt q e.symm;omega)]
     exact alloc_old _ _ _ (by omega)
   have hji:(j:Int)<((l.length:Nat):Int):=by omega
   have hsz:=hE.out.lt.size
   have OWN:Hid (∀Y Y2,Below wr.heap.size wr Y→LT lb Y Y2→Y2.ownsRow w.heap.size 90 1 (.slice na ns.length nc) ns.length (ns.map An.val)∧w.heap.size≤Y2.heap.size):=fun Y Y2 h1 h2=>⟨owns_keep own fun q hq=>by
    have:=own.lt q hq
    have:=h1.size
    rw[h2.touch.block q (by omega) (by show ¬ q=lb;omega)]
    exact h1.block q (by omega),by have:=h1.size;have:=h2.size;omega⟩
   obtain⟨tx,xx,rfl⟩:=hx.iface
   clear hx hcell hvx hnext e2 hL hE own OPP LOOK CELL
   generalize valN (oppA k o j)=vo at *
   go_wp2_with (first
    |(go_at_call 126;refine CO.mono ?_;rintro e w1 ⟨rfl,hb1⟩)
    |(go_at_call 87;refine (CL.out _ hb1).mono ?_;rintro e w2 ⟨hl2,hk2,m,F2,rfl,hm2,hMd,hN2,hF2,hB2⟩;obtain⟨tn,bn,hn⟩:=m.val_iface;have ow:=OWN.out _ _ hb1 hl2;have own2:=ow.1;have hz2:=ow.2;clear ow;have NX:Hid _:=fun nv' w7 ob=>NEXT.out _ _ m F2 nv' w7 ob hb1 hl2 hk2 hm2 hMd hN2 hF2 hB2;rw[hn] at NX ⊢;clear hm2 hMd hN2 hF2 hB2 hk2 hl2 NEXT)
    |(at_builtin;obtain⟨i0,hi,hz0,hz1,hz2'⟩:=info_parts Tryz.infoNNode;refine wpList_append_own_at _ rfl _ _ 156 rfl w.heap.size 90 i0 .nilIface 1 16 underlying156 hi hz0 hz1 hz2' rfl (by decide) _ _ _ rfl (own2.alloc _) ⟨w2.heap.size,0,none⟩ 1 1 [.iface tn (.pointer (some ⟨bn,0,none⟩))] rfl rfl (cell_one_new _ _ _) (fun x hx=>by simp at hx;subst hx;rfl) (by unfold maxLen;omega) (by omega) (by simp;omega) ?_;intro k' w6 hownk hgrowk hnilk hobk;clear hi hz0 hz1 hz2'))
   obtain⟨n1,n2,n3,n4,n5⟩:=NX.out _ _ _ hownk hgrowk hobk
   go_roundg (l.length-(j+1))
   case measure=>omega
   case rel =>
    exact⟨j+1,c2,z2,kd++[n],ms,ns++[m],F++F2,rfl,by go_num,by omega,(show _∧_∧_ from ⟨n1,n2,n3⟩),(show EI D lb w _ _ _ _ from n4),(show EL fns lb f k o l w _ D _ _ _ _ c' z' from n5)⟩
  ·have hjj:j=l.length:=by omega
   have hji:¬ (j:Int)<((l.length:Nat):Int):=by omega
   have hend:=hL.out.eq
   rw[hjj,List.drop_length,lookL] at hend
   simp only[Option.some.injEq,Prod.mk.injEq] at hend
   obtain⟨h1,h2,h3⟩:=hend
   have FIN:Hid (eaP D lb fns w ks c' z' (.returned (.tuple #[.slice na ns.length nc,.nilIface])) wr):=by
    have hEI:=hE.out
    have hLK:=hL.out.lk
    rw[h2,h3] at hLK
    refine⟨hEI.lt,hLK,ns,F,_,rfl,?_,hEI.kids.weaken fun q hq=>hq.1,?_,hEI.nodup,hEI.fresh,hEI.blocks⟩
    ·exact (SegAt.of_row (RowAt.of_owns hEI.own)).weaken fun q hq=>hD q hq
    ·rw[hA.out.2.1,←h1,List.append_nil];exact hA.out.2.2
   clear hE hL hA own h1 h2 h3
   go_wp2_with fail
   go_ret2
   exact FIN.out
theorem HdC.keep {w w':World}{D:Nat→Prop}(hk:RK w w'){hs:List Hd}{hc:List Value}(h:HdC w D hs hc):HdC w' D hs hc:=h.map fun _ _ k=>k.tyKeep hk.kv
structure E7 (w:World)(D:Nat→Prop)(B:Nat)(tag:ByteArray)(ats:List (ByteArray×ByteArray))(hs:List Hd)(av hv:Value)(hc:List Value):Prop where
 blk:w.heap[B]?=some (.cells #[.int .i64 0,.bool false,.string ⟨#[]⟩,.string tag,av,hv,.slice none 0 0] 223)
 ra:SegAt w TT 270 2 av ats.length (atC ats)
 rh:SegAt w TT 160 3 hv hs.length hc
 hd:HdC w D hs hc
theorem rows7_of {w:World}{D:Nat→Prop}{ats:List (ByteArray×ByteArray)}{hs:List Hd}{av hv nv:Value}{hc:List Value}{n:Nat}{xs:List Value}(ra:SegAt w TT 270 2 av ats.length (atC ats))(rh:SegAt w TT 160 3 hv hs.length hc)(hd:HdC w D hs hc)(rn:SegAt w D 90 1 nv n xs):Rows7 w D (atP ats) hs n xs av hv nv hc :=
 ⟨by rw[atA_atP];simpa[atP] using ra,rh,hd,rn⟩
theorem put_done {lb:Nat}{fns:List Fn}{w X0 X1:World}{B j:Nat}{u:Value}{T:TypeId}{cur:Array Value}{c z:Nat}{F:List Nat}
  (hL0:LT lb w X0) (hlb:lb<w.heap.size) (hB:w.heap.size≤B) (hlt:B<X0.heap.size) (hL:LT lb X0 X1) (hK:LK X1 lb fns c z) (q1:X1.heap[B]?=some (.cells cur T)) (hT:T≠74∧T≠270∧T≠160∧T≠90∧T≠9) (hN:F.Nodup) (hF:∀b∈F,X0.heap.size≤b∧b<X1.heap.size) :
  LT lb w (X1.setCell ⟨B,j,none⟩ u)∧LK (X1.setCell ⟨B,j,none⟩ u) lb fns c z∧RK X1 (X1.setCell ⟨B,j,none⟩ u)∧(B::F).Nodup∧(∀b∈B::F,w.heap.size≤b∧b<(X1.setCell ⟨B,j,none⟩ u).heap.size)∧(∀b,(b∈F∨b<lb)→(X1.setCell ⟨B,j,none⟩ u).heap[b]?=X1.heap[b]?):=by
 have rk:=RK.setCell (j:=j) q1 hT u
 have hs0:=hL0.size
 have hs1:=hL.size
 have hz:(X1.setCell ⟨B,j,none⟩ u).heap.size=X1.heap.size:=by simp[World.setCell]
 refine⟨(hL0.trans hL).fresh hB u,?_,rk,?_,?_,?_⟩
 ·exact hK.same fun q hq=>Below.heap_setCell X1 ⟨B,j,none⟩ u q (by show q≠B;omega)
 ·exact List.nodup_cons.2 ⟨fun h=>by have:=hF B h;omega,hN⟩
 ·intro b hb
  rw[hz]
  rcases List.mem_cons.1 hb with rfl | hb
  ·omega
  ·have:=hF b hb;omega
 ·intro b hb
  refine Below.heap_setCell X1 ⟨B,j,none⟩ u b ?_
  show b≠B
  rcases hb with h | h
  ·have:=hF b h;omega
  ·omega
theorem in_cons {B lb:Nat}{F l:List Nat}(hb:∀b∈l,b∈F∨b<lb):∀b∈B::l,b∈B::F∨b<lb:=by
 intro b hq
 rcases List.mem_cons.1 hq with rfl | hq
 ·exact Or.inl (List.mem_cons_self ..)
 ·rcases hb b hq with h | h
  ·exact Or.inl (List.mem_cons_of_mem _ h)
  ·exact Or.inr h
theorem el_done {D:Nat→Prop}{lb:Nat}{fns:List Fn}{w X0 X1:World}{B:Nat}{tag:ByteArray}{ats:List (ByteArray×ByteArray)}{hs:List Hd}{av hv:Value}{hc:List Value}{ks:List Ln}{c z:Nat}{ns:List An}{F:List Nat}{nv:Value}
  (hL0:LT lb w X0) (hlb:lb<w.heap.size) (hB:w.heap.size≤B) (hE:E7 X0 D B tag ats hs av hv hc) (hL:LT lb X0 X1) (hK:LK X1 lb fns c z) (rn:SegAt X1 D 90 1 nv ns.length (ns.map An.val)) (hns:AnsD X1 D ns) (hM:MadeL ks ns F) (hN:F.Nodup) (hF:∀b∈F,X0.heap.size≤b∧b<X1.heap.size) (hb:∀b∈blocksL ns,b∈F∨b<lb) :
  lkP D lb fns w (.el tag.data.toList (atP ats) hs ks) c z (.returned (.tuple #[.iface 217 (.pointer (some ⟨B,0,none⟩)),.nilIface])) (X1.setCell ⟨B,6,none⟩ nv):=by
 have hlt:=block_lt hE.blk
 have q1:X1.heap[B]?=some (.cells #[.int .i64 0,.bool false,.string ⟨#[]⟩,.string tag,av,hv,.slice none 0 0] 223):=by
  rw[hL.touch.block B hlt (by show ¬ B=lb;omega)]
  exact hE.blk
 obtain⟨p1,p2,rk,p3,p4,p5⟩:=put_done (j:=6) (u:=nv) hL0 hlb hB hlt hL hK q1 (by decide) hN hF
 have rk1:=hL.rows.trans rk
 refine⟨p1,p2,.el B mk0 tag.data.toList (atP ats) hs ns,B::F,rfl,?_,?_,p3,p4,?_⟩
 ·rw[AnD]
  refine⟨⟨av,hv,nv,hc,?_,?_⟩,hns.keep rk fun b hq=>p5 b (hb b hq)⟩
  ·rw[set_block q1,bsA_data];rfl
  ·exact rows7_of (hE.ra.tyKeep rk1.ka) (hE.rh.tyKeep rk1.kh) (hE.hd.keep rk1) (rn.tyKeep rk.kn)
 ·rw[Made];exact⟨B,ns,F,rfl,rfl,hM⟩
 ·rw[blocksA]
  exact in_cons hb
theorem lookE_some {S:LkS}{c z:Nat}{o:Option An}{l:List PV}{k:Ln}{c' z':Nat}(h:lookE S c z o l=some (k,c',z')):∃t ats hs ks ns,elOf l=some (t,ats,hs,ks)∧lookL S (.el t) o 0 c z ks=some (ns,c',z')∧k=.el t ats hs ns:=by
 unfold lookE at h
 split at h
 ·cases h
 ·rename_i t ats hs ks e
  split at h
  ·cases h
  ·rename_i ns c1 z1 e2
   simp only[Option.some.injEq,Prod.mk.injEq] at h
   obtain⟨rfl,rfl,rfl⟩:=h
   exact⟨t,ats,hs,ks,ns,e,e2,rfl⟩
theorem elOf_fine {l:List PV}{t:List UInt8}{ats:List (List UInt8×List UInt8)}{hs:List Hd}{ks:List PV}(h:elOf l=some (t,ats,hs,ks))(hf:∀v∈l,Fine v):(∀v∈ks,Fine v)∧ks.length≤600∧wtVs ks≤600:=by
 unfold elOf at h
 split at h
 ·rename_i t0 a0 k0
  split at h
  ·cases e:attrL [] [] a0 with
   | none=>rw[e] at h;cases h
   | some x =>
    rw[e] at h
    simp only[Option.map_some,Option.some.injEq,Prod.mk.injEq] at h
    obtain⟨rfl,rfl,rfl,rfl⟩:=h
    have h1:Fine (.lst k0):=hf _ (by simp)
    have h2:=h1.2
    rw[wtV] at h2
    have:=vlen_le k0
    exact⟨fun v hv=>h1.item hv,by omega,by omega⟩
  ·cases h
 ·cases h
theorem element_of {fns:List Fn}{lb f:Nat}(IH:LDo fns lb f)(D:Nat→Prop)(o:Option An)(l:List PV)(ad:Option Addr)(cap:Nat)(cs:List Value)(c z:Nat)(k:Ln)(c' z':Nat)(w:World)
  (he:lookE (lookA fns f) c z o l=some (k,c',z')) (hz:z≤c) (hc:c≤100) (hK:LK w lb fns c z) (hD:∀g,w.heap.size≤g→D g) (hseg:SegAt w D 74 1 (.slice ad l.length cap) l.length cs) (hvs:VLs w D l cs) (hf:∀v∈l,Fine v) (hw:wtVs l≤600) (hO:OD w D o) (hOk:OldOk lb o) :
  Calls prog 162 #[.pointer (some ⟨lb,0,none⟩),.slice ad l.length cap,valN o] w (lkP D lb fns w k c' z'):=by
 obtain⟨t,ats0,hs0,vs,ns,e1,e2,rfl⟩:=lookE_some he
 have hfine:=elOf_fine e1 hf
 have hlb:=hK.lt
 have CE:Calls prog 190 #[.slice ad l.length cap] w (fun e w1=>∃(tag:ByteArray) (ats:List (ByteArray×ByteArray)) (av hv:Value) (hc:List Value) (ad2:Option Addr) (cap2:Nat) (cs2:List Value),
   e=.returned (.tuple #[.agg #[.int .i64 0,.bool false,.string ⟨#[]⟩,.string tag,av,hv,.slice none 0 0],.slice ad2 vs.length cap2,.nilIface])∧Below w.heap.size w w1∧tag.data.toList=t∧atP ats=ats0∧SegAt w1 TT 270 2 av ats.length (atC ats)∧SegAt w1 TT 160 3 hv hs0.length hc∧HdC w1 D hs0 hc∧SegAt w1 D 74 1 (.slice ad2 vs.length cap2) vs.length cs2∧VLs w1 D vs cs2):=by
  refine (elementOf_any D l ad cap cs w hw hseg hvs).mono fun e w1 h=>?_
  obtain⟨hb,⟨tag,ats,hs,ks,av,hv,hc,ad2,cap2,cs2,ho,he,ra,rh,hd,sg,vl⟩ | ⟨ho,_⟩⟩:=h
  ·rw[e1] at ho
   simp only[Option.some.injEq,Prod.mk.injEq] at ho
   obtain⟨rfl,rfl,rfl,rfl⟩:=ho
   exact⟨tag,ats,av,hv,hc,ad2,cap2,cs2,he,hb,rfl,rfl,(SegAt.of_row ra).weaken fun _ _=>trivial,(SegAt.of_row rh).weaken fun _ _=>trivial,hd,sg,vl⟩
  ·rw[e1] at ho;cases ho
 have EACH:Hid (∀(X:World) (xin:Value) (ad2:Option Addr) (cap2:Nat) (cs2:List Value),LT lb w X→LK X lb fns c z→KindAt X xin (.el t)→SegAt X D 74 1 (.slice ad2 vs.length cap2) vs.length cs2→VLs X D vs cs2→Calls prog 191 #[.pointer (some ⟨lb,0,none⟩),.slice ad2 vs.length cap2,xin,valN o] X (eaP D lb fns X ns c' z')):=fun X xin ad2 cap2 cs2 hL hK hk hs hv =>
  each_of IH D (.el t) xin o vs ad2 cap2 cs2 c z ns c' z' X e2 hz hc hK (fun g hg=>hD g (by have:=hL.size;omega)) hs hv hfine.1 (by have:=hfine.2.1;omega) hk (Or.inl ⟨t,rfl⟩) (hO.lt' hL hOk) hOk
 have LKX:Hid (LK w lb fns c z):=hK
 clear IH hD hO hOk hfine hK e2 he hseg hvs hf e1
 go_enter func162,ntmps162
 go_wp2_with (go_at_call 190;refine CE.mono ?_;rintro e w1 ⟨tag,ats,av,hv,hc,ad2,cap2,cs2,rfl,hb1,ht,ha,ra,rh,hd,sg,vl⟩;clear CE;obtain⟨aa,ac,rfl⟩:=ra.slice;obtain⟨ha2,hac,rfl⟩:=rh.slice)
 subst ht ha
 have hbs:=hb1.size
 have bA:Below w1.heap.size w1 (w1.alloc (.cells #[.int .i64 0,.bool false,.string ⟨#[]⟩,.string tag,.slice aa ats.length ac,.slice ha2 hs0.length hac,.slice none 0 0] 223)):=(Below.refl _ _).alloc (Nat.le_refl _) _
 have q0:(w1.alloc (.cells #[.int .i64 0,.bool false,.string ⟨#[]⟩,.string tag,.slice aa ats.length ac,.slice ha2 hs0.length hac,.slice none 0 0] 223)).heap[w1.heap.size]?=some _:=heap_alloc_new _ _
 generalize w1.alloc (.cells #[.int .i64 0,.bool false,.string ⟨#[]⟩,.string tag,.slice aa ats.length ac,.slice ha2 hs0.length hac,.slice none 0 0] 223)=X0 at *
 have bX:Below w.heap.size w X0:=hb1.trans (bA.mono hbs)
 have CA:=EACH.out X0 (.iface 217 (.pointer (some ⟨w1.heap.size,0,none⟩))) ad2 cap2 cs2 (LT.of_below bX) (LKX.out.below bX) ⟨w1.heap.size,rfl,by unfold World.cell?;rw[q0,bsA_data];rfl⟩ (sg.below bA) (vl.below bA)
 have E0:Hid (E7 X0 D w1.heap.size tag ats hs0 (.slice aa ats.length ac) (.slice ha2 hs0.length hac) hc):=⟨q0,ra.below bA,rh.below bA,hd.keep (RK.of_below bA)⟩
 have FR:Hid (∀Y,LT lb X0 Y→∀j,Y.frozen? ⟨w1.heap.size,j,none⟩=false):=fun Y hY j=>by
  unfold World.frozen?
  rw[hY.touch.block w1.heap.size (block_lt q0) (by show ¬ w1.heap.size=lb;omega),q0]
  rfl
 have CELL6:Hid (∀Y,LT lb X0 Y→Y.cell? ⟨w1.heap.size,6,none⟩=some (.slice none 0 0)):=fun Y hY=>by
  unfold World.cell?
  rw[hY.touch.block w1.heap.size (block_lt q0) (by show ¬ w1.heap.size=lb;omega),q0]
  rfl
 clear EACH LKX ra rh hd sg vl q0 bA
 refine CA.mono ?_
 rintro e w2 ⟨hl2,hk2,ns2,F,nv,rfl,rn,hns,hM,hN,hF,hB⟩
 obtain⟨na,ncap,rfl⟩:=rn.slice
 have FIN:Hid (lkP D lb fns w (.el tag.data.toList (atP ats) hs0 ns) c' z' (.returned (.tuple #[.iface 217 (.pointer (some ⟨w1.heap.size,0,none⟩)),.nilIface])) (w2.setCell ⟨w1.heap.size,6,none⟩ (.slice na ns2.length ncap))):=el_done (LT.of_below bX) hlb hbs E0.out hl2 hk2 rn hns hM hN hF hB
 have f6:=FR.out w2 hl2 6
 have c6:=CELL6.out w2 hl2
 clear rn hns hM hN hF hB hl2 hk2 E0 FR CELL6 CA
 go_wp2_with fail
 go_ret2
 exact FIN.out
end Go.Proofs.YtifhgjpglicjbaaGreatDoor
