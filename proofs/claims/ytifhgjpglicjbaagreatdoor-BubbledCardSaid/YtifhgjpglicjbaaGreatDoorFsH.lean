/-
  Frames, the program: Write.
-/
import Derived.Test.YtifhgjpglicjbaaGreatDoorFsG
import Derived.Test.YtifhgjpglicjbaaGreatDoorRows
import Derived.Conc.MuLib
import Derived.Conc.MuLone
import Derived.KernelRfl
set_option maxHeartbeats 4000000
set_option maxRecDepth 8000
namespace Go.Proofs.YtifhgjpglicjbaaGreatDoor
open Go.Proofs.Tryz
open Go.RowKit Go.Lib Go.Shelf
attribute [local go_sem ↓] Go.wp_at_zero Go.wp_at_succ
attribute [local go_sem] nt_Node_Text_Text nt_Node_Text_Element nt_Node_Text_Keyed nt_Node_Text_Tagged nt_Node_Text_Lazy nt_Node_Element_Text nt_Node_Element_Element nt_Node_Element_Keyed nt_Node_Element_Tagged nt_Node_Element_Lazy nt_Node_Keyed_Text nt_Node_Keyed_Element nt_Node_Keyed_Keyed nt_Node_Keyed_Tagged nt_Node_Keyed_Lazy nt_Node_Tagged_Text nt_Node_Tagged_Element nt_Node_Tagged_Keyed nt_Node_Tagged_Tagged nt_Node_Tagged_Lazy nt_Node_Lazy_Text nt_Node_Lazy_Element nt_Node_Lazy_Keyed nt_Node_Lazy_Tagged nt_Node_Lazy_Lazy nt_Node_nil_Text nt_Node_nil_Element nt_Node_nil_Keyed nt_Node_nil_Tagged nt_Node_nil_Lazy nt_Shown_Text_Text nt_Shown_Text_Element nt_Shown_Text_Keyed nt_Shown_Element_Text nt_Shown_Element_Element nt_Shown_Element_Keyed nt_Shown_Keyed_Text nt_Shown_Keyed_Element nt_Shown_Keyed_Keyed nt_Shown_nil_Text nt_Shown_nil_Element nt_Shown_nil_Keyed nt_Shown_of_Text nt_Shown_of_Element nt_Shown_of_Keyed nt_Shown_of_nil
theorem el_ev {w:World}{b:Nat}{m:Mk}{t:List UInt8}{ats:List (List UInt8×List UInt8)}{hs:List Hd}{ks:List An}(h:AnAt w (.el b m t ats hs ks)):∃av nv,EV w b m t ats ks av nv:=by
 rw[AnAt,AnD] at h
 obtain⟨⟨av,hv,nv,hc,h1,h2⟩,h3⟩:=h
 exact⟨av,nv,by unfold World.cell?;rw[h1];rfl,by unfold World.cell?;rw[h1];rfl,by unfold World.cell?;rw[h1];rfl,by unfold World.cell?;rw[h1];rfl,by unfold World.cell?;rw[h1];rfl,by unfold World.cell?;rw[h1];rfl,h2.ra,h2.rn⟩
theorem ky_ev {w:World}{b:Nat}{m:Mk}{t:List UInt8}{ats:List (List UInt8×List UInt8)}{hs:List Hd}{keys:List (List UInt8)}{ks:List An}(h:AnAt w (.ky b m t ats hs keys ks)):∃av nv,EV w b m t ats ks av nv:=by
 rw[AnAt,AnD] at h
 obtain⟨⟨av,hv,nv,hc,kv,h1,h2,h4⟩,h3⟩:=h
 exact⟨av,nv,by unfold World.cell?;rw[h1];rfl,by unfold World.cell?;rw[h1];rfl,by unfold World.cell?;rw[h1];rfl,by unfold World.cell?;rw[h1];rfl,by unfold World.cell?;rw[h1];rfl,by unfold World.cell?;rw[h1];rfl,h2.ra,h2.rn⟩
theorem write_step {w0:World}{b B f:Nat}(ht:Pow10 w0)(hB9:B≤1000000000)(IH:WrDo w0 b B f):WrDo w0 b B (f+1):=by
 intro n w l hsz hn hnm hB hb hl
 have CB:=bare_any (some n) w (hn.below (hb.mono (Nat.le_refl _)))
 have e1:valN (some n)=n.val:=rfl
 have e2:valN (bareO (some n))=(bareA n).val:=rfl
 rw[e1,e2] at CB
 have hn2:=bareA_ok hn
 have hz2:=(bareA_old (n:=n)).2.1
 have hnm2:=nmA_bare hnm
 have hsh:=bareA_shown n
 rw[←treeT_bare n] at hl ⊢
 obtain⟨tv,bv,hv⟩:=n.val_iface
 rw[hv] at CB ⊢
 clear hn hnm e1 e2
 generalize bareA n=s at *
 cases s with
 | txt p m t =>
  rw[AnD] at hn2
  rw[NmA] at hnm2
  rw[er,treeT] at hl ⊢
  simp only[List.length_append,List.length_cons,List.length_nil] at hl
  have hmt:(m.note.getD []).length≤(markT m).length:=by
   unfold markT
   cases m.note<;>simp
   omega
  have hblk:w.heap[p]?=some _:=(hb.block p (block_lt hn2)).trans hn2
  have c0:w.cell? ⟨p,0,none⟩=some (mkN m):=by unfold World.cell?;rw[hblk];rfl
  have c1:w.cell? ⟨p,1,none⟩=some (mkW m):=by unfold World.cell?;rw[hblk];rfl
  have c2:w.cell? ⟨p,2,none⟩=some (mkS m):=by unfold World.cell?;rw[hblk];rfl
  have c3:w.cell? ⟨p,3,none⟩=some (.string (bsA t)):=by unfold World.cell?;rw[hblk];rfl
  have CMX:Hid (∀X,Below w.heap.size w X→Calls prog 89 #[.agg #[mkN m,mkW m,mkS m]] X fun e w'=>e=.returned (.string (bsA (markT m)))∧Below w.heap.size w w'):=fun X hX=>(mark_any m X (by omega) (by omega) (ht.below (hb.trans (hX.mono hb.size)))).mono fun e w' h=>⟨h.1,hX.trans (h.2.mono hX.size)⟩
  have CQX:Hid (∀X,Below w.heap.size w X→Calls prog 90 #[.string (bsA t)] X fun e w'=>e=.returned (.string (bsA (39::(t++[39]))))∧Below w.heap.size w w'):=fun X hX=>by
   have:=quote_any (bsA t) X (by rw[bsA_size];omega) (ht.below (hb.trans (hX.mono hb.size)))
   rw[data_bsA] at this
   exact this.mono fun e w' h=>⟨h.1,hX.trans (h.2.mono hX.size)⟩
  have W1:Hid (∀X (s:ByteArray),Below w.heap.size w X→s.data.toList=markT m++[32,39]++t++[39]→Calls prog 77 #[.pointer (some ⟨b,0,none⟩),.string s] X fun e w'=>(∃y,e=.returned (.tuple #[.int .i64 y,.nilIface]))∧Bld w0.heap.size b (l++(markT m++[32,39]++t++[39])) w'∧Below w0.heap.size w0 w'):=fun X s hX hs=>ws_any (hB.below hX) (hb.trans (hX.mono hb.size)) s _ hs (by simp;omega)
  have CM:=CMX.out w (Below.refl _ _)
  have CMd:=CMX.out w.drew (Below.refl _ _).drew
  have TX:Hid ((bsA (markT m)).data.toList=markT m∧(bsA (39::(t++[39]))).data.toList=39::(t++[39])):=⟨data_bsA _,data_bsA _⟩
  have s1:(bsA (markT m)).size≤900000:=by rw[bsA_size];omega
  have s2:(bsA (39::(t++[39]))).size≤900002:=by rw[bsA_size];simp;omega
  simp only[mkN,mkW,mkS] at c0 c1 c2 CM CMd
  simp only[An.val] at CB
  generalize bsA (39::(t++[39]))=bq at *
  generalize bsA (markT m)=bm at *
  generalize bsA t=bt at *
  clear hn2 hblk hB hb IH CMX
  go_enter func61,ntmps61
  go_wp2_with (go_at_call 64;refine CB.mono ?_;rintro e w1 ⟨rfl,rfl⟩)
  go_region_with (first
   |(go_at_call 89;(first | refine CM.mono ?_ | refine CMd.mono ?_);rintro e w2 ⟨rfl,hb2⟩;have c3':=Below.cellv hb2 c3;have CQ:=CQX.out w2 hb2)
   |(go_at_call 90;refine CQ.mono ?_;rintro e w3 ⟨rfl,hb3⟩;have c3'':=Below.cellv hb3 c3)
   |(go_at_call 77;refine (W1.out _ _ hb3 ?_).mono ?_;(simp[TX.out.1,TX.out.2]);rintro e w4 ⟨⟨y4,rfl⟩,hB4,hb4⟩))
  all_goals (go_wp2_with fail)
  all_goals exact bodyPost_end (v:=.tuple #[]) (by simp[results,results61,go_sem]) rfl ⟨rfl,hB4,hb4⟩
 | el p m t ats hs ks =>
  obtain⟨av,nv,hE⟩:=el_ev hn2
  have hk:=kids_at hn2
  rw[NmA] at hnm2
  rw[sizeA] at hz2
  rw[er,treeT] at hl ⊢
  have CW:=writeElement_of IH ht hB9 p m t ats ks av nv w l hE hk (by omega) hnm2.1 hnm2.2 hB hb hl
  generalize (60::(t++markT m++attrT ats++[62]++treesT (erL ks)++[60,47]++t++[62]))=R at *
  simp only[An.val] at CB
  clear hn2 hE hk hB hb IH
  go_enter func61,ntmps61
  go_wp2_with (first
   |(go_at_call 64;refine CB.mono ?_;rintro e w1 ⟨rfl,rfl⟩)
   |(go_at_call 91;refine CW.mono ?_;rintro e w2 ⟨rfl,hB4,hb4⟩))
  exact bodyPost_end (v:=.tuple #[]) (by simp[results,results61,go_sem]) rfl ⟨rfl,hB4,hb4⟩
 | ky p m t ats hs keys ks =>
  obtain⟨av,nv,hE⟩:=ky_ev hn2
  have hk:=kids_at hn2
  rw[NmA] at hnm2
  rw[sizeA] at hz2
  rw[er,treeT] at hl ⊢
  have CW:=writeElement_of IH ht hB9 p m t ats ks av nv w l hE hk (by omega) hnm2.1 hnm2.2 hB hb hl
  generalize (60::(t++markT m++attrT ats++[62]++treesT (erL ks)++[60,47]++t++[62]))=R at *
  simp only[An.val] at CB
  clear hn2 hE hk hB hb IH
  go_enter func61,ntmps61
  go_wp2_with (first
   |(go_at_call 64;refine CB.mono ?_;rintro e w1 ⟨rfl,rfl⟩)
   |(go_at_call 91;refine CW.mono ?_;rintro e w2 ⟨rfl,hB4,hb4⟩))
  exact bodyPost_end (v:=.tuple #[]) (by simp[results,results61,go_sem]) rfl ⟨rfl,hB4,hb4⟩
 | tg p f n=>cases hsh
 | lz p f args n=>cases hsh
theorem write_tree {w0:World}{b B:Nat}(ht:Pow10 w0)(hB9:B≤1000000000):∀f,WrDo w0 b B f
 | 0=>fun n w l hs=>by have:=sizeA_pos n;omega
 | f+1=>write_step ht hB9 (write_tree ht hB9 f)
end Go.Proofs.YtifhgjpglicjbaaGreatDoor
namespace Go.Proofs.YtifhgjpglicjbaaGreatDoor
open Go.Proofs.Tryz
open Go.RowKit Go.Lib Go.Shelf
attribute [local go_sem ↓] Go.wp_at_zero Go.wp_at_succ
theorem NWrite_ok {w:World}{n:An}{B:Nat}(hn:AnAt w n)(hnm:NmA B n)(hB9:B≤1000000000)(ht:Pow10 w)(hl:(treeT (er n)).length≤900000):
  Calls prog 36 #[n.val] w fun e w'=>e=.returned (.string (bsA (treeT (er n))))∧Below w.heap.size w w':=by
 have cw:=write_tree (w0:=w) (b:=w.heap.size) ht hB9 (sizeA n) n _ [] (Nat.le_refl _) hn hnm (Bld.new w) (below1 w _) (by simpa using hl)
 rw[List.nil_append] at cw
 have CS:Hid (∀w2,Bld w.heap.size w.heap.size (treeT (er n)) w2→Below w.heap.size w w2→Calls prog 56 #[.pointer (some ⟨w.heap.size,0,none⟩)] w2 fun e w'=>e=.returned (.string (bsA (treeT (er n))))∧Below w.heap.size w w'):=fun w2 h1 h2=>by
  have c:Calls prog 56 #[.pointer (some ⟨w.heap.size,0,none⟩)] w2 _:=Any.Builder_String_any_k laysSt laysBx w.heap.size w.heap.size (treeT (er n)) w2 h1 h2.size
  exact c.mono fun e w' ⟨g1,_,g3,_⟩=>⟨g1,h2.trans g3⟩
 obtain⟨tn,bn,hv⟩:=n.val_iface
 rw[hv] at cw ⊢
 clear hn hnm ht hl hv
 generalize treeT (er n)=R at *
 go_enter func36,ntmps36
 go_wp2_with (first
  |(go_at_call 61;refine cw.mono ?_;rintro e w2 ⟨rfl,hB2,hb2⟩)
  |(go_at_call 56;refine (CS.out _ hB2 hb2).mono ?_;rintro e w3 ⟨rfl,hb3⟩))
 go_ret
 exact⟨rfl,hb3⟩
mutual
theorem NmA.mono {B C:Nat}(h:B≤C):∀{n:An},NmA B n→NmA C n
 | .txt _ _ _,k=>by rw[NmA] at k ⊢;omega
 | .el _ _ _ _ _ ks,k=>by rw[NmA] at k ⊢;exact⟨by omega,NmL.mono h k.2⟩
 | .ky _ _ _ _ _ _ ks,k=>by rw[NmA] at k ⊢;exact⟨by omega,NmL.mono h k.2⟩
 | .tg _ _ n,k=>by rw[NmA] at k ⊢;exact NmA.mono h k
 | .lz _ _ _ n,k=>by rw[NmA] at k ⊢;exact NmA.mono h k
theorem NmL.mono {B C:Nat}(h:B≤C):∀{l:List An},NmL B l→NmL C l
 | [],_=>by rw[NmL];trivial
 | n::r,k=>by rw[NmL] at k ⊢;exact⟨NmA.mono h k.1,NmL.mono h k.2⟩
end
theorem NmL.get {B:Nat}:∀{l:List An},NmL B l→∀{i:Nat} {n:An},l[i]?=some n→NmA B n
 | [],_,i,n,h=>by simp at h
 | a::r,hw,0,n,h=>by rw[NmL] at hw;simp at h;rw[←h];exact hw.1
 | a::r,hw,i+1,n,h=>by rw[NmL] at hw;exact NmL.get hw.2 (by simpa using h)
def NmO (B:Nat)(o:Option An):Prop:=∀n,o=some n→NmA B n
theorem NmO.opp {B:Nat}{o:Option An}(h:NmO B o)(k:Kd)(i:Nat):NmO B (bareO (oppA k o i)):=by
 have key:∀n,oppA k o i=some n→NmA B n:=by
  intro n hn
  unfold oppA at hn
  split at hn
  ·split at hn
   ·have:=h _ rfl
    rw[NmA] at this
    exact this.2.get hn
   ·cases hn
  ·split at hn
   ·have:=h _ rfl
    rw[NmA] at this
    obtain⟨q,_,hn⟩:=Option.bind_eq_some_iff.1 hn
    obtain⟨j,_,hn⟩:=Option.bind_eq_some_iff.1 hn
    exact this.2.get hn
   ·cases hn
  ·have:=h _ rfl
   rw[NmA] at this
   cases hn
   exact this
  ·have:=h _ rfl
   rw[NmA] at this
   cases hn
   exact this
  ·cases hn
 intro n hn
 cases ho:oppA k o i with
 | none=>rw[ho] at hn;cases hn
 | some x=>rw[ho] at hn;cases hn;exact nmA_bare (key x ho)
theorem markA_nm {k:Kd}{o:Option An}{g:Nat}(h:NmO g o):(markA k o g).1.num≤(markA k o g).2:=by
 unfold markA
 split
 ·rename_i n
  split
  ·have:=h n rfl
   cases n<;>simp[markOf,NmA,mk0] at this ⊢<;>first | omega | exact this.1 | skip
  ·simp
 ·simp
theorem NmO.mono {B C:Nat}(h:B≤C){o:Option An}(k:NmO B o):NmO C o:=fun n hn=>(k n hn).mono h
mutual
theorem numA_nm:∀(n:An) (o:Option An) (g:Nat),NmO g o→NmA (numA n o g).2 (numA n o g).1
 | .txt b m s,o,g,h=>by simp only[numA,NmA];exact markA_nm h
 | .el b m t ats hs ks,o,g,h=>by
  have h1:=markA_nm (k:=.el t) h
  have h2:=markA_le (.el t) o g
  have h3:=numAs_le (.el t) o ks 0 (markA (.el t) o g).2
  simp only[numA,NmA]
  exact⟨by omega,numAs_nm (.el t) o ks 0 _ (h.mono h2.1)⟩
 | .ky b m t ats hs keys ks,o,g,h=>by
  have h1:=markA_nm (k:=.ky t keys) h
  have h2:=markA_le (.ky t keys) o g
  have h3:=numAs_le (.ky t keys) o ks 0 (markA (.ky t keys) o g).2
  simp only[numA,NmA]
  exact⟨by omega,numAs_nm (.ky t keys) o ks 0 _ (h.mono h2.1)⟩
 | .tg b f n,o,g,h=>by simp only[numA,NmA];exact numA_nm n o g h
 | .lz b f args n,o,g,h=>by simp only[numA,NmA];exact numA_nm n o g h
theorem numAs_nm (k:Kd)(o:Option An):∀(l:List An) (i g:Nat),NmO g o→NmL (numAs k o i l g).2 (numAs k o i l g).1
 | [],i,g,h=>by simp[numAs,NmL]
 | n::r,i,g,h=>by
  have h1:=numA_nm n (bareO (oppA k o i)) g (h.opp k i)
  have h2:=numA_le n (bareO (oppA k o i)) g
  have h3:=numAs_le k o r (i+1) (numA n (bareO (oppA k o i)) g).2
  simp only[numAs,NmL]
  exact⟨h1.mono h3.1,numAs_nm k o r (i+1) _ (h.mono h2.1)⟩
end
end Go.Proofs.YtifhgjpglicjbaaGreatDoor
namespace Go.Proofs.YtifhgjpglicjbaaGreatDoor
open Go.Proofs.Tryz
abbrev muL:Go.Conc.Locks.MuLink:={ lock:=32,unlock:=33,ilock:=57,iunlock:=58,lockSlow:=83,unlockSlow:=86,disable:=79,enable:=81,acquire:=82,relMerge:=84,cas32:=80,add32:=85,tMutex:=88,tIMutex:=86,tPMutex:=144,tPIMutex:=197,tPI32:=199,tUP:=201,tNoCopy:=83,tU32:=84 }
theorem muLib:Go.Conc.Locks.MuLib prog muL:=by
 constructor
 all_goals first | kernel_rfl | (intro w;kernel_rfl)
end Go.Proofs.YtifhgjpglicjbaaGreatDoor
namespace Go.Proofs.YtifhgjpglicjbaaGreatDoor
open Go.Proofs.Tryz
open Go.RowKit Go.Lib Go.MuLone
attribute [local go_sem ↓] Go.wp_at_zero Go.wp_at_succ
structure PA where
 model:PV
 queue:List PV
 handled:Bool
 shown:Option An
 greatest:Nat
 faults:Nat
 dropped:Nat
 frames:Nat
 lazies:Nat
 S:Nat→Prop
 was:Nat→Option Obj
 foe:Nat→Prop
 pd:Nat→Prop
structure AC where
 sem:Int
 pa:Option Addr
 pn:Nat
 pc:Nat
 xm:Value
 qv:Value
 wt:Int
def appCells (lk:Int)(c:AC)(a:PA):Array Value :=
 #[.int .i32 lk,.int .u32 c.sem,.slice c.pa c.pn c.pc,c.xm,c.qv,.bool a.handled,valN a.shown,.int .i64 ((a.greatest:Nat):Int),.int .i64 c.wt,.int .i64 ((a.faults:Nat):Int),.int .i64 ((a.dropped:Nat):Int),.int .i64 ((a.frames:Nat):Int),.int .i64 ((a.lazies:Nat):Int)]
def NQ (qv:Value)(foe:Nat→Prop):Nat→Prop:=fun k=>qv.ownBlock≠some k∧¬ foe k
def PD (ab:Nat)(a:PA):Nat→Prop:=fun q=>q<ab∧a.pd q
structure OutS (w:World)(ab:Nat)(c:AC)(a:PA):Prop where
 keep:∀q,a.S q→q<w.heap.size∧w.heap[q]?=a.was q
 sA:¬ a.S ab
 sN:∀n,a.shown=some n→∀b∈blocksA n,¬ a.S b
 sQ:∀q,c.qv.ownBlock=some q→¬ a.S q
 fo:∀q,a.foe q→q<w.heap.size
theorem OutS.turn {w w':World}{ab:Nat}{c:AC}{a:PA}(h:OutS w ab c a)(ht:Touch (·=ab) w w'):OutS w' ab c a :=
 ⟨fun q hq=>⟨by have:=(h.keep q hq).1;have:=ht.size;omega,(ht.block q (h.keep q hq).1 fun e=>h.sA (by rw[←show q=ab from e];exact hq)).trans (h.keep q hq).2⟩,h.sA,h.sN,h.sQ,fun q hq=>by have:=h.fo q hq;have:=ht.size;omega⟩
structure AppS (w:World)(ab:Nat)(fns:List Fn)(c:AC)(a:PA):Prop where
 prog:ProgAt w (PD ab a) (.slice c.pa c.pn c.pc) fns
 model:VL w (NQ c.qv a.foe) a.model c.xm
 queue:∃cs,w.ownsRow (ab+1) 74 1 c.qv a.queue.length cs∧VLs w (NQ c.qv a.foe) a.queue cs
 shown:OD w (NQ c.qv a.foe) a.shown
 flt:FltG w
 num:NumG w
 hm:15≤ab
 fm:Fine a.model
 fq:∀v∈a.queue,Fine v
 ok:∀n,a.shown=some n→WfA n∧sizeA n≤100
 nm:NmO a.greatest a.shown
 hq:a.queue.length≤12
 out:OutS w ab c a
structure AppAt (w:World)(ab:Nat)(fns:List Fn)(lk:Int)(c:AC)(a:PA):Prop where
 blk:w.heap[ab]?=some (.cells (appCells lk c a) 92)
 st:AppS w ab fns c a
theorem AppS.turn {w w':World}{ab:Nat}{fns:List Fn}{c:AC}{a:PA}(h:AppS w ab fns c a){cur:Array Value}(hab:w.heap[ab]?=some (.cells cur 92))(ht:Touch (·=ab) w w')(rk:RK w w'):AppS w' ab fns c a:=by
 have hlt:=block_lt hab
 have hm:=h.hm
 refine⟨?_,h.model.tyKeep rk.kv,?_,?_,?_,?_,hm,h.fm,h.fq,h.ok,h.nm,h.hq,h.out.turn ht⟩
 ·exact (h.prog.keep fun q hq hl=>ht.block q hl (by have:q<ab:=hq.1;show ¬ q=ab;omega)).weaken fun q hq=>hq.1
 ·obtain⟨cs,h1,h2⟩:=h.queue
  refine⟨cs,owns_keep h1 fun q hq=>?_,h2.tyKeep rk.kv⟩
  have:=h1.lt q hq
  exact ht.block q this.2 (by show ¬ q=ab;omega)
 ·refine h.shown.keep rk fun n hn b hb=>?_
  have hs:=h.shown
  rw[hn] at hs
  have hs:AnD w (NQ c.qv a.foe) n:=hs
  refine ht.block b (hs.lt b hb) fun e=>?_
  obtain⟨c1,t,h1,h2⟩:=hs.ty b hb
  rw[show b=ab from e,hab] at h1
  cases h1
  revert h2
  decide
 ·exact h.flt.same fun q hq=>ht.block q (by omega) (by show ¬ q=ab;omega)
 ·exact h.num.same fun q hq=>ht.block q (by omega) (by show ¬ q=ab;omega)
theorem AppS.below {w w':World}{ab:Nat}{fns:List Fn}{c:AC}{a:PA}(h:AppS w ab fns c a){cur:Array Value}(hab:w.heap[ab]?=some (.cells cur 92))(hb:Below w.heap.size w w'):AppS w' ab fns c a:=h.turn hab (Touch.of_below hb) (RK.of_below hb)
theorem AppAt.below {w w':World}{ab:Nat}{fns:List Fn}{lk:Int}{c:AC}{a:PA}(h:AppAt w ab fns lk c a)(hb:Below w.heap.size w w'):AppAt w' ab fns lk c a:=⟨(hb.block ab (block_lt h.blk)).trans h.blk,h.st.below h.blk hb⟩
theorem AppAt.lt {w:World}{ab:Nat}{fns:List Fn}{lk:Int}{c:AC}{a:PA}(h:AppAt w ab fns lk c a):ab<w.heap.size:=block_lt h.blk
theorem AppAt.frozen {w:World}{ab:Nat}{fns:List Fn}{lk:Int}{c:AC}{a:PA}(h:AppAt w ab fns lk c a)(j:Nat):w.frozen? ⟨ab,j,none⟩=false:=by unfold World.frozen?;rw[h.blk];rfl
theorem AppAt.cell {w:World}{ab:Nat}{fns:List Fn}{lk:Int}{c:AC}{a:PA}(h:AppAt w ab fns lk c a)(j:Nat):w.cell? ⟨ab,j,none⟩=(appCells lk c a)[j]?:=by unfold World.cell?;rw[h.blk];rfl
theorem AppAt.set {w:World}{ab:Nat}{fns:List Fn}{lk:Int}{c:AC}{a:PA}(h:AppAt w ab fns lk c a)(j:Nat)(u:Value):(w.setCell ⟨ab,j,none⟩ u).heap[ab]?=some (.cells ((appCells lk c a).setIfInBounds j u) 92)∧AppS (w.setCell ⟨ab,j,none⟩ u) ab fns c a∧Below ab w (w.setCell ⟨ab,j,none⟩ u) :=
 ⟨set_block h.blk u,h.st.turn h.blk ((Touch.refl (·=ab) w).setCell (p:=⟨ab,j,none⟩) (Or.inl rfl) u) (RK.setCell h.blk (by decide) u),(Below.refl _ _).setCell (p:=⟨ab,j,none⟩) (Nat.le_refl _) u⟩
theorem AppAt.lock {w:World}{ab:Nat}{fns:List Fn}{lk:Int}{c:AC}{a:PA}(h:AppAt w ab fns lk c a)(lk':Int):AppAt (w.setCell ⟨ab,0,none⟩ (.int .i32 lk')) ab fns lk' c a :=
 ⟨(h.set 0 _).1,(h.set 0 _).2.1⟩
theorem Tree_ok {w:World}{ab:Nat}{fns:List Fn}{c:AC}{a:PA}(h:AppAt w ab fns 0 c a){n:An}(hn:a.shown=some n)(hg:a.greatest≤1000000000)(hl:(treeT (er n)).length≤900000):
  Calls prog 17 #[.pointer (some ⟨ab,0,none⟩)] w fun e w'=>e=.returned (.string (bsA (treeT (er n))))∧Below ab w w'∧AppAt w' ab fns 0 c a:=by
 have h1:=h.lock 1
 have b1:Below ab w (w.setCell ⟨ab,0,none⟩ (.int .i32 1)):=(h.set 0 _).2.2
 have c0:w.cell? ⟨ab,0,none⟩=some (.int .i32 0):=h.cell 0
 have f0:=h.frozen 0
 have hlt:=h.lt
 have c6:(w.setCell ⟨ab,0,none⟩ (.int .i32 1)).cell? ⟨ab,6,none⟩=some n.val:=by
  rw[h1.cell 6]
  show some (valN a.shown)=_
  rw[hn]
  rfl
 have hs:=h1.st.shown
 rw[hn] at hs
 have hs:AnD _ (NQ c.qv a.foe) n:=hs
 have CW:=NWrite_ok (B:=a.greatest) (hs.weaken fun _ _=>trivial) (h.st.nm n hn) hg h1.st.num.p10 hl
 have FIN:Hid (∀X,Below (w.setCell ⟨ab,0,none⟩ (.int .i32 1)).heap.size (w.setCell ⟨ab,0,none⟩ (.int .i32 1)) X→X.cell? ⟨ab,0,none⟩=some (.int .i32 1)∧X.frozen? ⟨ab,0,none⟩=false∧Below ab w (X.setCell ⟨ab,0,none⟩ (.int .i32 0))∧AppAt (X.setCell ⟨ab,0,none⟩ (.int .i32 0)) ab fns 0 c a):=fun X hX=>by
  have hXa:=h1.below hX
  refine⟨hXa.cell 0,hXa.frozen 0,?_,hXa.lock 0⟩
  have hz:ab≤(w.setCell ⟨ab,0,none⟩ (.int .i32 1)).heap.size:=by have:=h1.lt;omega
  exact (b1.trans (hX.mono hz)).trans (hXa.set 0 _).2.2
 obtain⟨tn,bn,hv⟩:=n.val_iface
 rw[hv] at CW c6
 generalize treeT (er n)=R at *
 clear h h1 hs hn hv hl
 go_enter_defers func17,ntmps17
 go_wp2_with (first
  |(go_at_call 32;refine (lock_free muLib ⟨ab,0,none⟩ _ c0 f0).mono ?_;rintro e w1 ⟨rfl,rfl⟩)
  |(go_at_call 36;refine CW.mono ?_;rintro e w2 ⟨rfl,hb2⟩;obtain⟨d0,g0,q1,q2⟩:=FIN.out w2 hb2))
 refine leaves_cons (f:=33) (args:=#[.pointer (some ⟨ab,0,none⟩)]) (by simp) (by simp[go_sem]) ?_
 refine (unlock_deferred muLib ⟨ab,0,none⟩ .returning _ d0 g0).mono ?_
 rintro e u' w3 ⟨rfl,rfl,rfl⟩
 exact⟨_,results_tmp rfl _ _ _,rfl,q1,q2⟩
end Go.Proofs.YtifhgjpglicjbaaGreatDoor
namespace Go.Proofs.YtifhgjpglicjbaaGreatDoor
open Go.Proofs.Tryz
open Go.Lib
mutual
def LnOld (P:Nat→Prop):Ln→Prop
 | .txt _=>True
 | .el _ _ _ ks=>LnOlds P ks
 | .ky _ _ _ _ ks=>LnOlds P ks
 | .tg _ n=>LnOld P n
 | .lz _ _ n=>LnOld P n
 | .old a=>∀b∈blocksA a,P b
def LnOlds (P:Nat→Prop):List Ln→Prop
 | []=>True
 | n::r=>LnOld P n∧LnOlds P r
end
def OBl (P:Nat→Prop)(o:Option An):Prop:=∀m,o=some m→∀b∈blocksA m,P b
theorem OBl.opp {P:Nat→Prop}{o:Option An}(h:OBl P o)(k:Kd)(i:Nat):OBl P (oppA k o i):=by
 intro n hn
 unfold oppA at hn
 split at hn
 ·split at hn
  ·have:=h _ rfl
   rw[blocksA] at this
   have hz:=sizeL_at hn
   exact fun b hb=>this b (by simp[hz.2 b hb])
  ·cases hn
 ·split at hn
  ·have:=h _ rfl
   rw[blocksA] at this
   obtain⟨q,_,hn⟩:=Option.bind_eq_some_iff.1 hn
   obtain⟨j,_,hn⟩:=Option.bind_eq_some_iff.1 hn
   have hz:=sizeL_at hn
   exact fun b hb=>this b (by simp[hz.2 b hb])
  ·cases hn
 ·have:=h _ rfl
  rw[blocksA] at this
  cases hn
  exact fun b hb=>this b (by simp[hb])
 ·have:=h _ rfl
  rw[blocksA] at this
  cases hn
  exact fun b hb=>this b (by simp[hb])
 ·cases hn
theorem lookL_old {S:LkS}{P:Nat→Prop}(hS:∀c z v o k c' z',S c z v o=some (k,c',z')→OBl P o→LnOld P k){k:Kd}{o:Option An}(ho:OBl P o):∀{l:List PV} {i c z:Nat} {ks:List Ln} {c' z':Nat},lookL S k o i c z l=some (ks,c',z')→LnOlds P ks
 | [],i,c,z,ks,c',z',h=>by rw[lookL] at h;cases h;rw[LnOlds];trivial
 | v::r,i,c,z,ks,c',z',h=>by
  obtain⟨n,c1,z1,ms,e1,e2,rfl⟩:=lookL_step h
  rw[LnOlds]
  exact⟨hS _ _ _ _ _ _ _ e1 (ho.opp k i),lookL_old hS ho e2⟩
theorem look_old {fns:List Fn}(P:Nat→Prop):∀f c z v o k c' z',lookA fns f c z v o=some (k,c',z')→OBl P o→LnOld P k
 | 0,c,z,v,o,k,c',z',h,_=>by simp[lookA] at h
 | f+1,c,z,v,o,k,c',z',h,ho=>by
  have ih:=look_old (fns:=fns) P f
  simp only[lookA] at h
  split at h
  ·cases h
  ·cases v with
   | num i =>
    simp only[Option.some.injEq,Prod.mk.injEq] at h
    obtain⟨rfl,rfl,rfl⟩:=h
    rw[LnOld];trivial
   | txt i =>
    simp only[Option.some.injEq,Prod.mk.injEq] at h
    obtain⟨rfl,rfl,rfl⟩:=h
    rw[LnOld];trivial
   | lst l =>
    obtain⟨w,r,e1,hc⟩:=lookX_some h
    rcases hc with ⟨rfl,e2⟩ | ⟨rfl,e2⟩ | ⟨rfl,e2⟩ | ⟨rfl,e2⟩
    ·obtain⟨t,ats,hs,ks,ns,e3,e4,rfl⟩:=lookE_some e2
     rw[LnOld];exact lookL_old ih ho e4
    ·obtain⟨t,ats,hs,ps,keys,ks,ns,e3,e5,e4,rfl⟩:=lookK_some e2
     rw[LnOld];exact lookL_old ih ho e4
    ·obtain⟨t,v,m,e3,_,e4,rfl⟩:=lookT_some e2
     rw[LnOld];exact ih _ _ _ _ _ _ _ e4 (ho.opp .tg 0)
    ·obtain⟨t,args,e3,_,hc⟩:=lookZ_some e2
     rcases hc with ⟨m,e4,_,rfl,rfl,rfl⟩ | ⟨e4,e5⟩
     ·have hom:o=some m:=by
       unfold againA at e4
       split at e4
       ·split at e4
        ·exact e4
        ·cases e4
       ·cases e4
      rw[LnOld];exact ho m hom
     ·obtain⟨v,m,e6,e7,rfl⟩:=lookN_some e5
      rw[LnOld];exact ih _ _ _ _ _ _ _ e7 (ho.opp .lz 0)
theorem frN_new {base b:Nat}{l:List Nat}(h:base≤b):frN base (b::l)=b::frN base l:=by simp[frN,h]
mutual
theorem Made.fr {lb:Nat}:∀{k:Ln} {n:An} {F:List Nat},Made k n F→LnOld (·<lb) k→(∀b∈F,lb≤b)→frN lb (blocksA n)=F
 | .txt s,n,F,h,ho,hF=>by
  rw[Made] at h;obtain⟨b,rfl,rfl⟩:=h
  rw[blocksA,frN_new (hF b (by simp))];rfl
 | .el t ats hs ks,n,F,h,ho,hF=>by
  rw[Made] at h;obtain⟨b,ns,G,rfl,rfl,h⟩:=h
  rw[LnOld] at ho
  rw[blocksA,frN_new (hF b (by simp)),MadeL.fr h ho fun q hq=>hF q (by simp[hq])]
 | .ky t ats hs keys ks,n,F,h,ho,hF=>by
  rw[Made] at h;obtain⟨b,ns,G,rfl,rfl,h⟩:=h
  rw[LnOld] at ho
  rw[blocksA,frN_new (hF b (by simp)),MadeL.fr h ho fun q hq=>hF q (by simp[hq])]
 | .tg f k,n,F,h,ho,hF=>by
  rw[Made] at h;obtain⟨b,ns,G,rfl,rfl,h⟩:=h
  rw[LnOld] at ho
  rw[blocksA,frN_new (hF b (by simp)),Made.fr h ho fun q hq=>hF q (by simp[hq])]
 | .lz f args k,n,F,h,ho,hF=>by
  rw[Made] at h;obtain⟨b,ns,G,rfl,rfl,h⟩:=h
  rw[LnOld] at ho
  rw[blocksA,frN_new (hF b (by simp)),Made.fr h ho fun q hq=>hF q (by simp[hq])]
 | .old a,n,F,h,ho,hF=>by
  rw[Made] at h;obtain⟨rfl,rfl⟩:=h
  rw[LnOld] at ho
  unfold frN
  rw[List.filter_eq_nil_iff]
  intro b hb
  have:=ho b hb
  simp
  omega
theorem MadeL.fr {lb:Nat}:∀{l:List Ln} {ns:List An} {F:List Nat},MadeL l ns F→LnOlds (·<lb) l→(∀b∈F,lb≤b)→frN lb (blocksL ns)=F
 | [],ns,F,h,ho,hF=>by rw[MadeL] at h;rw[h.1,h.2];rfl
 | a::r,ns,F,h,ho,hF=>by
  rw[MadeL] at h
  obtain⟨x,xs,G1,G2,rfl,rfl,h1,h2⟩:=h
  rw[LnOlds] at ho
  rw[blocksL,frN_append,Made.fr h1 ho.1 fun q hq=>hF q (List.mem_append_left _ hq),MadeL.fr h2 ho.2 fun q hq=>hF q (List.mem_append_right _ hq)]
end
mutual
theorem Made.all {P:Nat→Prop}:∀{k:Ln} {n:An} {F:List Nat},Made k n F→LnOld P k→(∀b∈F,P b)→∀b∈blocksA n,P b
 | .txt s,n,F,h,ho,hF=>by
  rw[Made] at h;obtain⟨b,rfl,rfl⟩:=h
  simpa[blocksA] using hF
 | .el t ats hs ks,n,F,h,ho,hF=>by
  rw[Made] at h;obtain⟨b,ns,G,rfl,rfl,h⟩:=h
  rw[LnOld] at ho
  simp only[blocksA,List.mem_cons,forall_eq_or_imp]
  exact⟨hF b (by simp),MadeL.all h ho fun q hq=>hF q (by simp[hq])⟩
 | .ky t ats hs keys ks,n,F,h,ho,hF=>by
  rw[Made] at h;obtain⟨b,ns,G,rfl,rfl,h⟩:=h
  rw[LnOld] at ho
  simp only[blocksA,List.mem_cons,forall_eq_or_imp]
  exact⟨hF b (by simp),MadeL.all h ho fun q hq=>hF q (by simp[hq])⟩
 | .tg f k,n,F,h,ho,hF=>by
  rw[Made] at h;obtain⟨b,ns,G,rfl,rfl,h⟩:=h
  rw[LnOld] at ho
  simp only[blocksA,List.mem_cons,forall_eq_or_imp]
  exact⟨hF b (by simp),Made.all h ho fun q hq=>hF q (by simp[hq])⟩
 | .lz f args k,n,F,h,ho,hF=>by
  rw[Made] at h;obtain⟨b,ns,G,rfl,rfl,h⟩:=h
  rw[LnOld] at ho
  simp only[blocksA,List.mem_cons,forall_eq_or_imp]
  exact⟨hF b (by simp),Made.all h ho fun q hq=>hF q (by simp[hq])⟩
 | .old a,n,F,h,ho,hF=>by
  rw[Made] at h;obtain⟨rfl,rfl⟩:=h
  rw[LnOld] at ho
  exact ho
theorem MadeL.all {P:Nat→Prop}:∀{l:List Ln} {ns:List An} {F:List Nat},MadeL l ns F→LnOlds P l→(∀b∈F,P b)→∀b∈blocksL ns,P b
 | [],ns,F,h,ho,hF=>by rw[MadeL] at h;rw[h.1];simp[blocksL]
 | a::r,ns,F,h,ho,hF=>by
  rw[MadeL] at h
  obtain⟨x,xs,G1,G2,rfl,rfl,h1,h2⟩:=h
  rw[LnOlds] at ho
  simp only[blocksL,List.mem_append]
  rintro b (hb | hb)
  ·exact Made.all h1 ho.1 (fun q hq=>hF q (List.mem_append_left _ hq)) b hb
  ·exact MadeL.all h2 ho.2 (fun q hq=>hF q (List.mem_append_right _ hq)) b hb
end
end Go.Proofs.YtifhgjpglicjbaaGreatDoor
