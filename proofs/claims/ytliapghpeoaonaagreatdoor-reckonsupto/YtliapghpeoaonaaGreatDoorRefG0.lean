/-
  The reference: expr: what is laid down.
-/
import Derived.Test.YtliapghpeoaonaaGreatDoorRefE
import Derived.Laws.BytesString
import Derived.Lib.Strings
set_option maxHeartbeats 4000000
set_option maxRecDepth 8000
namespace Go.Proofs.YtliapghpeoaonaaGreatDoor
open Go.Proofs.Tryz
open Go.RowKit
attribute [local go_sem ↓] Go.wp_at_zero Go.wp_at_succ
theorem Zrl (s:ByteArray):(s.extract 1 (s.size-1)).data.toList=Zj5 s.data.toList:=by
 rw[Lib.extract_data]
 unfold Zj5
 rw[show s.data.toList.length=s.size by simp,show s.size-1-1=s.size-2 by omega]
section
variable {w:World} {base rb tb cap:Nat} {l:List (Tok×ByteArray)} {fv pv:Value} {k d e a:Nat} {ps:List Zaw}
theorem Zc6 (w:World)(o:Obj)(x1 x2 x3 x4 x5:Value)(t:TypeId):∀j v,[x1,x2,x3,x4,x5][j]?=some v→((w.alloc o).alloc (.cells #[x1,x2,x3,x4,x5] t)).cell? ((⟨w.heap.size+1,0,none⟩:Addr).add j)=some v:=by
 intro j v hj
 match j,hj with
 | 0,hj=>simp at hj;subst hj;simp[Addr.add]
 | 1,hj=>simp at hj;subst hj;simp[Addr.add]
 | 2,hj=>simp at hj;subst hj;simp[Addr.add]
 | 3,hj=>simp at hj;subst hj;simp[Addr.add]
 | 4,hj=>simp at hj;subst hj;simp[Addr.add]
 | j+5,hj=>simp at hj
theorem Rp.app {X w3:World}{v':Value}(h:Rp X base rb tb cap l fv pv k d e a ps)(hown':w3.ownsRow base 322 5 v' (ps.length+1) (Zbw ps++[.string ⟨#[]⟩,.int .i64 0,.string ⟨#[]⟩,.int .i64 0,.slice none 0 0]))(hgrow:X.grownBy w3 pv.ownBlock)(hat:v'.ownBlock=pv.ownBlock∨v'.ownBlock=some X.heap.size):
  Rz w3 rb tb cap l fv pv k d e a∧Rp (w3.setCell ⟨rb,6,none⟩ v') base rb tb cap l fv v' k d e a (ps++[Zaw.zero]):=by
 have hz:Rz w3 rb tb cap l fv pv k d e a:=h.z.keep (hgrow.block rb h.z.lt.1 h.nr) (hgrow.block tb h.z.lt.2 h.nt)
 have n1:some rb≠v'.ownBlock:=by
  rcases hat with g | g
  ·rw[g];exact h.nr
  ·rw[g];intro e;have:=h.z.lt.1;simp at e;omega
 have n2:some tb≠v'.ownBlock:=by
  rcases hat with g | g
  ·rw[g];exact h.nt
  ·rw[g];intro e;have:=h.z.lt.2;simp at e;omega
 refine⟨hz,hz.set6 v',?_,n1,n2,?_⟩
 ·refine Zay ?_ fun g hg=>Below.heap_setCell w3 ⟨rb,6,none⟩ v' g fun e=>n1 (by rw[hg];exact congrArg some e.symm)
  rw[List.length_append,Zo0]
  exact hown'
 ·have:=h.hb;have:=hgrow.size;simp[World.setCell];omega
theorem Rp.put {g c':Nat}{qs:List Zaw}(h:Rp w base rb tb cap l fv (.slice (some ⟨g,0,none⟩) qs.length c') k d e a qs)(n:Nat)(hn:n<qs.length)(p:Zaw):
  Rp (((((w.setCell ⟨g,n*5,none⟩ (.string p.op)).setCell ⟨g,n*5+1,none⟩ (.int .i64 p.n)).setCell ⟨g,n*5+2,none⟩ (.string p.s)).setCell ⟨g,n*5+3,none⟩ (.int .i64 ((p.at_:Nat):Int))).setCell ⟨g,n*5+4,none⟩ p.kv) base rb tb cap l fv (.slice (some ⟨g,0,none⟩) qs.length c') k d e a (qs.set n p):=by
 have n1:rb≠g:=fun e=>h.nr (by rw[e];rfl)
 have n2:tb≠g:=fun e=>h.nt (by rw[e];rfl)
 refine⟨((((h.z.set_other n1 n2 _ _).set_other n1 n2 _ _).set_other n1 n2 _ _).set_other n1 n2 _ _).set_other n1 n2 _ _,?_,h.nr,h.nt,by simpa[World.setCell] using h.hb⟩
 have:=((((((h.own.stored (n*5) (.string p.op)).1).stored (n*5+1) (.int .i64 p.n)).1.stored (n*5+2) (.string p.s)).1.stored (n*5+3) (.int .i64 ((p.at_:Nat):Int))).1.stored (n*5+4) p.kv).1
 rw[Zju _ _ _ hn] at this
 rw[List.length_set]
 exact this
theorem Zm5 {S:Nat→Prop}{w X:World}{g:Nat}(h:Zaa S w X)(hg:S g∨w.heap.size≤g)(n:Nat)(x1 x2 x3 x4 x5:Value):Zaa S w (((((X.setCell ⟨g,n*5,none⟩ x1).setCell ⟨g,n*5+1,none⟩ x2).setCell ⟨g,n*5+2,none⟩ x3).setCell ⟨g,n*5+3,none⟩ x4).setCell ⟨g,n*5+4,none⟩ x5) :=
 ((((h.setCell (p:=⟨g,n*5,none⟩) hg _).setCell (p:=⟨g,n*5+1,none⟩) hg _).setCell (p:=⟨g,n*5+2,none⟩) hg _).setCell (p:=⟨g,n*5+3,none⟩) hg _).setCell (p:=⟨g,n*5+4,none⟩) hg _
theorem Tx.below2 {w1 w3:World}{c:Int}{s:ByteArray}{p:Nat}{o:Obj}{row:Option Nat}(h:Tx (w1.alloc (Zc3 c s p)) w1.heap.size c s p)(hg:((w1.alloc (Zc3 c s p)).alloc o).grownBy w3 row)(hr:∀g,row=some g→g<w1.heap.size):Tx w3 w1.heap.size c s p :=
 ⟨by rw[hg.block w1.heap.size (by simp;omega) (fun e=>absurd (hr _ e.symm) (by omega)),(Zab _ o).block _ (by simp)];exact h.blk⟩
def Zls (c:Int):ByteArray:=ByteArray.empty.push (UInt8.ofNat c.toNat)
theorem Zib (X:World)(c:Int)(b:Nat)(hb:b=X.heap.size):(convert 153 9 (.slice (some ⟨b,0,none⟩) 1 1)).run prog (X.alloc (.cells #[.int .u8 c] 5))=.ok (.string (Zls c)) (X.alloc (.cells #[.int .u8 c] 5)):=by
 subst hb
 rw[run_convert_bytes_string _ _ _ 5 _ _ _ underlying153 underlying5 underlying9]
 exact run_bytesToString _ _ 1 1 [c] (by simp[loadCells,loadCellsFrom,go_sem])
structure Px (W:World)(B:Nat)(p:Zaw):Prop where
 blk:W.heap[B]?=some (.cells #[.string p.op,.int .i64 p.n,.string p.s,.int .i64 ((p.at_:Nat):Int),p.kv] 322)
theorem Px.touch {S:Nat→Prop}{W W':World}{B:Nat}{p:Zaw}(h:Px W B p)(ht:Zaa S W W')(hne:¬ S B):Px W' B p:=⟨by rw[ht.block B (Zag h.blk) hne];exact h.blk⟩
theorem Px.facts {W:World}{B:Nat}{p:Zaw}(h:Px W B p):W.cell? ⟨B,0,none⟩=some (.string p.op)∧W.cell? ⟨B,1,none⟩=some (.int .i64 p.n)∧W.cell? ⟨B,2,none⟩=some (.string p.s)∧W.cell? ⟨B,3,none⟩=some (.int .i64 ((p.at_:Nat):Int))∧W.cell? ⟨B,4,none⟩=some p.kv:=by
 have hb:=h.blk
 refine⟨?_,?_,?_,?_,?_⟩<;>(unfold World.cell?;rw[hb];rfl)
theorem Px.free {W:World}{B:Nat}{p:Zaw}(h:Px W B p)(j:Nat):W.frozen? ⟨B,j,none⟩=false:=by
 have hb:=h.blk
 unfold World.frozen?;rw[hb];simp
theorem Rp.slice (h:Rp w base rb tb cap l fv pv k d e a ps)(hn:0<ps.length):∃g c',pv=.slice (some ⟨g,0,none⟩) ps.length c'∧ps.length≤c'∧c'≤maxLen:=by
 rcases h.own.2 with ⟨_,h0⟩ | ⟨g,c',cur,hv,hg,hh,hc,hm,hz,ht⟩
 ·omega
 ·exact⟨g,c',hv,hc,hm⟩
theorem Rp.spots {g c':Nat}{qs:List Zaw}(h:Rp w base rb tb cap l fv (.slice (some ⟨g,0,none⟩) qs.length c') k d e a qs)(n:Nat)(hn:n<qs.length):
  (∃y0 y1 y2 y3 y4,w.cell? ⟨g,n*5,none⟩=some y0∧w.cell? ⟨g,n*5+1,none⟩=some y1∧w.cell? ⟨g,n*5+2,none⟩=some y2∧w.cell? ⟨g,n*5+3,none⟩=some y3∧w.cell? ⟨g,n*5+4,none⟩=some y4)∧∀j,w.frozen? ⟨g,j,none⟩=false:=by
 obtain⟨a0,a1,a2,a3,a4⟩:=Zhm qs n qs[n] (List.getElem?_eq_getElem hn)
 refine⟨⟨.string qs[n].op,.int .i64 qs[n].n,.string qs[n].s,.int .i64 ((qs[n].at_:Nat):Int),qs[n].kv,?_,?_,?_,?_,?_⟩,fun j=>h.own.frozenAt j⟩
 ·rw[h.own.cellAt _ (by omega)];exact a0
 ·rw[h.own.cellAt _ (by omega)];exact a1
 ·rw[h.own.cellAt _ (by omega)];exact a2
 ·rw[h.own.cellAt _ (by omega)];exact a3
 ·rw[h.own.cellAt _ (by omega)];exact a4
theorem Px.new (X:World)(p:Zaw){B:Nat}(hB:B=X.heap.size):Px (X.alloc (.cells #[.string p.op,.int .i64 p.n,.string p.s,.int .i64 ((p.at_:Nat):Int),p.kv] 322)) B p:=by subst hB;exact⟨heap_alloc_new _ _⟩
theorem Zfc {w5:World}{ad:Option Addr}{n cap3:Nat}{qs:List Zaw}(h:Rp w5 base rb tb cap l fv (.slice ad n cap3) k d e a qs)(i:Nat)(hi:i<qs.length):
  ∃gb,ad=some ⟨gb,0,none⟩∧n=qs.length∧n≤cap3∧cap3≤maxLen∧rb≠gb∧gb<w5.heap.size∧w5.cell? ⟨rb,6,none⟩=some (.slice ad n cap3)∧(∃y0 y1 y2 y3 y4,w5.cell? ⟨gb,i*5,none⟩=some y0∧w5.cell? ⟨gb,i*5+1,none⟩=some y1∧w5.cell? ⟨gb,i*5+2,none⟩=some y2∧w5.cell? ⟨gb,i*5+3,none⟩=some y3∧w5.cell? ⟨gb,i*5+4,none⟩=some y4)∧∀j,w5.frozen? ⟨gb,j,none⟩=false:=by
 obtain⟨gb,cb,hsl,hc1,hc2⟩:=h.slice (by omega)
 simp only[Value.slice.injEq] at hsl
 obtain⟨rfl,rfl,rfl⟩:=hsl
 have hs:=h.spots i hi
 have hg:=h.lt.2.2 gb rfl
 exact⟨gb,rfl,rfl,hc1,hc2,fun e=>h.nr (by rw[e];rfl),hg.2,h.z.cells.2.2.2.2.2.2,hs.1,hs.2⟩
abbrev Zx7 (X:World)(g n:Nat)(p:Zaw):World:=((((X.setCell ⟨g,n*5,none⟩ (.string p.op)).setCell ⟨g,n*5+1,none⟩ (.int .i64 p.n)).setCell ⟨g,n*5+2,none⟩ (.string p.s)).setCell ⟨g,n*5+3,none⟩ (.int .i64 ((p.at_:Nat):Int))).setCell ⟨g,n*5+4,none⟩ p.kv
theorem set_last (ps:List Zaw)(z p:Zaw):(ps++[z]).set ps.length p=ps++[p]:=by
 rw[List.set_append_right _ _ (Nat.le_refl _)];simp
theorem Zi5 {w _X:World}{pv:Value}{gb n c:Nat}(mv:Zea w pv (.slice (some ⟨gb,0,none⟩) n c)):some gb=pv.ownBlock∨w.heap.size≤gb:=by
 rcases mv with h | ⟨g,h,h2⟩
 ·exact Or.inl h
 ·cases h;exact Or.inr h2
theorem Zk9 {w5:World}{gb n cb k':Nat}{p:Zaw}{ex:Ex}(hT:Zaa (fun g=>g=rb∨some g=pv.ownBlock) w w5)(r5:Rp w5 base rb tb cap l fv (.slice (some ⟨gb,0,none⟩) n cb) k' d 0 a (ps++[Zaw.zero]))(mv:Zea w pv (.slice (some ⟨gb,0,none⟩) n cb))(hk:k<k')(hkl:k<l.length)
  (hrep:∀(W:World) (D:Nat→Prop),Ze0 W D (ps++[p]) ps.length ex ps.length) :
  Zg7 (.ok ex (Zan l k')) base rb tb cap l fv pv k d a ps w (.returned (.int .i64 ((ps.length:Nat):Int))) (Zx7 w5 gb ps.length p):=by
 have hn:n=(ps++[Zaw.zero]).length:=by
  rcases r5.own.2 with ⟨h,_⟩ | ⟨g,c,cur,hv,_⟩
  ·cases h
  ·simp only[Value.slice.injEq] at hv;exact hv.2.1
 subst hn
 have hp:=r5.put ps.length (by simp) p
 rw[set_last] at hp
 rw[show (ps++[Zaw.zero]).length=(ps++[p]).length by simp] at hp mv
 refine⟨Zm5 hT ?_ _ _ _ _ _ _,rfl,k',_,ps++[p],hp,rfl,List.prefix_append _ _,by simp,mv,hrep _ _,by simp;omega⟩
 rcases Zi5 (_X:=w) mv with g | g
 ·exact Or.inl (Or.inr g)
 ·exact Or.inr g
theorem Zt5 {w5:World}{gb n cb k' d' c q:Nat}{qs:List Zaw}{p:Zaw}(hT:Zaa (fun g=>g=rb∨some g=pv.ownBlock) w w5)(r5:Rp w5 base rb tb cap l fv (.slice (some ⟨gb,0,none⟩) n cb) k' d' c q qs)(mv:Zea w pv (.slice (some ⟨gb,0,none⟩) n cb))(hlen:ps.length<qs.length)(hc:c≠0):
  Zg7 (.err c q) base rb tb cap l fv pv k d a ps w (.returned (.int .i64 ((ps.length:Nat):Int))) (Zx7 w5 gb ps.length p):=by
 have hn:n=qs.length:=by
  rcases r5.own.2 with ⟨h,_⟩ | ⟨g,c,cur,hv,_⟩
  ·cases h
  ·simp only[Value.slice.injEq] at hv;exact hv.2.1
 subst hn
 have hp:=r5.put ps.length hlen p
 refine⟨Zm5 hT ?_ _ _ _ _ _ _,rfl,k',d',_,qs.set ps.length p,hp,by simpa using hlen,mv,hc⟩
 rcases Zi5 (_X:=w) mv with g | g
 ·exact Or.inl (Or.inr g)
 ·exact Or.inr g
theorem Zfa {r:Res Ex}{e:Ending}{w':World}(h:Zg7 r base rb tb cap l fv pv k d a ps w e w'):Zg7 r base rb tb cap l fv pv k d a ps w e w'.drew:=by
 obtain⟨h1,h2,h3⟩:=h
 refine⟨h1.drew,h2,?_⟩
 cases r with
 | err c q =>
  obtain⟨k',d',pv',ps',h4,h5⟩:=h3
  exact⟨k',d',pv',ps',h4.drew,h5⟩
 | ok ex rest =>
  obtain⟨k',pv',ps',h4,h5,h6,h7,h8,h9,h10⟩:=h3
  exact⟨k',pv',ps',h4.drew,h5,h6,h7,h8,Ze0.map (w:=w') (w':=w'.drew) (fun _ _ _ h=>h) (Nat.le_refl _) (fun _ _ _ h=>h) h9,h10⟩
theorem Zep {w X:World}{pv v':Value}(hat:v'.ownBlock=pv.ownBlock∨v'.ownBlock=some X.heap.size)(hX:w.heap.size≤X.heap.size):Zea w pv v':=by
 rcases hat with h | h
 ·exact Or.inl h
 ·exact Or.inr ⟨_,h,hX⟩
theorem Zf7 {w1 w3:World}{o1 o2:Obj}{v':Value}(hb:Below w.heap.size w w1)(hg:((w1.alloc o1).alloc o2).grownBy w3 pv.ownBlock)(_hr:rb<w.heap.size):Zaa (fun g=>g=rb∨some g=pv.ownBlock) w (w3.setCell ⟨rb,6,none⟩ v'):=by
 have h1:Zaa (fun g=>g=rb∨some g=pv.ownBlock) w ((w1.alloc o1).alloc o2):=((Zaa.of_below hb).alloc o1).alloc o2
 have h2:Zaa (fun g=>g=rb∨some g=pv.ownBlock) ((w1.alloc o1).alloc o2) w3:=⟨hg.os,hg.tape,hg.output,hg.size,fun j hj hS=>hg.block j hj fun e=>hS (Or.inr e)⟩
 exact (h1.trans h2).setCell (p:=⟨rb,6,none⟩) (Or.inl (Or.inl rfl)) _
theorem Px.setS {W:World}{B:Nat}{p:Zaw}(h:Px W B p)(x:ByteArray):Px (W.setCell ⟨B,2,none⟩ (.string x)) B ⟨p.op,p.n,x,p.at_,p.kv⟩:=⟨by rw[Zau h.blk];rfl⟩
theorem Px.set5 {W:World}{B:Nat}{p:Zaw}(h:Px W B p)(q:Zaw):Px (((((W.setCell ⟨B,0,none⟩ (.string q.op)).setCell ⟨B,1,none⟩ (.int .i64 q.n)).setCell ⟨B,2,none⟩ (.string q.s)).setCell ⟨B,3,none⟩ (.int .i64 ((q.at_:Nat):Int))).setCell ⟨B,4,none⟩ q.kv) B q:=⟨by rw[Zau (Zau (Zau (Zau (Zau h.blk _) _) _) _) _];rfl⟩
theorem Px.below {W W':World}{B:Nat}{p:Zaw}(h:Px W B p)(hb:Below W.heap.size W W'):Px W' B p:=⟨by rw[hb.block B (Zag h.blk)];exact h.blk⟩
theorem Rp.other5 {B:Nat}(h:Rp w base rb tb cap l fv pv k d e a ps)(h1:rb≠B)(h2:tb≠B)(h3:some B≠pv.ownBlock)(x0 x1 x2 x3 x4:Value):Rp (((((w.setCell ⟨B,0,none⟩ x0).setCell ⟨B,1,none⟩ x1).setCell ⟨B,2,none⟩ x2).setCell ⟨B,3,none⟩ x3).setCell ⟨B,4,none⟩ x4) base rb tb cap l fv pv k d e a ps :=
 ((((h.other h1 h2 h3 _ _).other h1 h2 h3 _ _).other h1 h2 h3 _ _).other h1 h2 h3 _ _).other h1 h2 h3 _ _
theorem Zaa.set5 {S:Nat→Prop}{w X:World}{B:Nat}(h:Zaa S w X)(hB:w.heap.size≤B)(x0 x1 x2 x3 x4:Value):Zaa S w (((((X.setCell ⟨B,0,none⟩ x0).setCell ⟨B,1,none⟩ x1).setCell ⟨B,2,none⟩ x2).setCell ⟨B,3,none⟩ x3).setCell ⟨B,4,none⟩ x4) :=
 ((((h.setCell (p:=⟨B,0,none⟩) (Or.inr hB) _).setCell (p:=⟨B,1,none⟩) (Or.inr hB) _).setCell (p:=⟨B,2,none⟩) (Or.inr hB) _).setCell (p:=⟨B,3,none⟩) (Or.inr hB) _).setCell (p:=⟨B,4,none⟩) (Or.inr hB) _
theorem Zzf {w5 wf W:World}{gb n cb k':Nat}{qs:List Zaw}{p:Zaw}{wd nm:List UInt8}{at_:Nat}{ks:List Ex}{js:List Nat}(hT:Zaa (fun g=>g=rb∨some g=pv.ownBlock) w W)(r5:Rp W base rb tb cap l fv (.slice (some ⟨gb,0,none⟩) n cb) k' d 0 a qs)(mv:Zea w pv (.slice (some ⟨gb,0,none⟩) n cb))(hw5:w.heap.size≤w5.heap.size)
  (hpre:ps++[Zaw.zero] <+: qs) (h1:p.op.data.toList=wd) (h2:p.s.data.toList=nm) (h3:p.at_=at_)
  (hrow:Zao wf (fun g=>w5.heap.size≤g∧some g≠(Value.slice (some ⟨gb,0,none⟩) n cb).ownBlock) 3 1 p.kv js.length (js.map fun j:Nat=>Value.int .i64 (j:Int))) (hrep:Zby wf (fun g=>w5.heap.size≤g∧some g≠(Value.slice (some ⟨gb,0,none⟩) n cb).ownBlock) qs (ps.length+1) ks js)
  (hW:∀g,w5.heap.size≤g→g<wf.heap.size→W.heap[g]?=wf.heap[g]?)
  (hsz:qs.length+(l.length-k')+1≤ps.length+1+(l.length-k)) :
  Zg7 (.ok (.form wd nm at_ ks) (Zan l k')) base rb tb cap l fv pv k d a ps w (.returned (.int .i64 ((ps.length:Nat):Int))) (Zx7 W gb ps.length p):=by
 have hn:n=qs.length:=by
  rcases r5.own.2 with ⟨h,_⟩ | ⟨g,c,cur,hv,_⟩
  ·cases h
  ·simp only[Value.slice.injEq] at hv;exact hv.2.1
 subst hn
 have hlen:ps.length<qs.length:=by have:=hpre.length_le;simp at this;omega
 have hp:=r5.put ps.length hlen p
 obtain⟨r,hr⟩:=hpre
 have hset:qs.set ps.length p=ps++p::r:=by
  rw[←hr,List.append_assoc,List.set_append_right _ _ (Nat.le_refl _)];simp
 have hkeep:∀g,w5.heap.size≤g→some g≠(Value.slice (some ⟨gb,0,none⟩) qs.length cb).ownBlock→g<wf.heap.size→(Zx7 W gb ps.length p).heap[g]?=wf.heap[g]?:=by
  intro g hg hne hlt
  have hgb:g≠gb:=fun e=>hne (by rw[e];rfl)
  rw[←hW g hg hlt]
  simp only[Zx7]
  rw[Below.heap_setCell _ ⟨gb,ps.length*5+4,none⟩ _ g hgb,Below.heap_setCell _ ⟨gb,ps.length*5+3,none⟩ _ g hgb,Below.heap_setCell _ ⟨gb,ps.length*5+2,none⟩ _ g hgb,Below.heap_setCell _ ⟨gb,ps.length*5+1,none⟩ _ g hgb,Below.heap_setCell _ ⟨gb,ps.length*5,none⟩ _ g hgb]
 have hR:∀sl m vs,Zao wf (fun g=>w5.heap.size≤g∧some g≠(Value.slice (some ⟨gb,0,none⟩) qs.length cb).ownBlock) 3 1 sl m vs→Zao (Zx7 W gb ps.length p) (fun g=>w.heap.size≤g∧some g≠(Value.slice (some ⟨gb,0,none⟩) (qs.set ps.length p).length cb).ownBlock) 3 1 sl m vs:=by
  intro sl m vs h
  refine (h.keep (w':=Zx7 W gb ps.length p) fun g hg hlt=>hkeep g hg.1 hg.2 hlt).weaken fun g hg=>⟨Nat.le_trans hw5 hg.1.1,hg.1.2⟩
 rw[show qs.length=(qs.set ps.length p).length by simp] at hp mv
 refine⟨Zm5 hT ?_ _ _ _ _ _ _,rfl,k',_,qs.set ps.length p,hp,rfl,?_,by simpa using hlen,mv,?_,by simp;omega⟩
 ·rcases Zi5 (_X:=w) mv with g | g
  ·exact Or.inl (Or.inr g)
  ·exact Or.inr g
 ·rw[hset];exact List.prefix_append _ _
 ·rw[Ze0]
  refine⟨Nat.le_refl _,p,js,by rw[List.getElem?_set_self hlen],h1,h2,h3,hR _ _ _ hrow,?_⟩
  refine Zby.map (lo:=ps.length+1) (fun i q hi hq=>?_) (by omega) hR hrep
  rw[List.getElem?_set_ne (by omega)];exact hq
theorem Zcy {S T:Nat→Prop}{w X Y:World}(h:Zaa S w X)(h2:Zaa T X Y)(hT:∀g,T g→S g∨w.heap.size≤g):Zaa S w Y :=
 ⟨h2.os.trans h.os,h2.tape.trans h.tape,h2.output.trans h.output,Nat.le_trans h.size h2.size,fun j hj hS=>(h2.block j (Nat.lt_of_lt_of_le hj h.size) fun t=>by rcases hT j t with g | g;exact hS g;omega).trans (h.block j hj hS)⟩
theorem Zea.trans {w X:World}{a b c:Value}(h:Zea w a b)(h2:Zea X b c)(hs:w.heap.size≤X.heap.size):Zea w a c:=by
 rcases h2 with g | ⟨g,g1,g2⟩
 ·rcases h with e | ⟨e,e1,e2⟩
  ·exact Or.inl (g.trans e)
  ·exact Or.inr ⟨e,g.trans e1,e2⟩
 ·exact Or.inr ⟨g,g1,Nat.le_trans hs g2⟩
theorem Zea.own {w:World}{a b:Value}(h:Zea w a b)(g:Nat)(hg:some g=b.ownBlock):some g=a.ownBlock∨w.heap.size≤g:=by
 rcases h with e | ⟨e,e1,e2⟩
 ·exact Or.inl (hg.trans e)
 ·rw[e1] at hg;cases hg;exact Or.inr e2
theorem Zmp {w3 X:World}{v3 v5:Value}{gb:Nat}(h:Zea X v3 v5)(hg:some gb=v5.ownBlock)(h3:∀g,v3.ownBlock=some g→g<w3.heap.size)(hX:X.heap.size=w3.heap.size+2):gb<w3.heap.size∨w3.heap.size+2≤gb:=by
 rcases h.own gb hg with e | e
 ·exact Or.inl (h3 gb e.symm)
 ·exact Or.inr (by omega)
theorem Zqr {X:World}{B g:Nat}(h:g≠B)(x0 x1 x2 x3 x4:Value):(((((X.setCell ⟨B,0,none⟩ x0).setCell ⟨B,1,none⟩ x1).setCell ⟨B,2,none⟩ x2).setCell ⟨B,3,none⟩ x3).setCell ⟨B,4,none⟩ x4).heap[g]?=X.heap[g]?:=by
 rw[Below.heap_setCell _ ⟨B,4,none⟩ _ g h,Below.heap_setCell _ ⟨B,3,none⟩ _ g h,Below.heap_setCell _ ⟨B,2,none⟩ _ g h,Below.heap_setCell _ ⟨B,1,none⟩ _ g h,Below.heap_setCell _ ⟨B,0,none⟩ _ g h]
end
section
variable {w:World} {base rb tb cap:Nat} {l:List (Tok×ByteArray)} {fv pv:Value} {k d e a:Nat} {ps:List Zaw}
theorem expr_num (h:Rp w base rb tb cap l fv pv k d 0 a ps)(hwf:Zfr l)(hsz:ps.length+(l.length-k)≤3000)(hct:(l[k]'h.z.hk).1.k=.num):
  Calls prog 99 #[.pointer (some ⟨rb,0,none⟩)] w (Zg7 (.ok (.num (l[k]'h.z.hk).1.body) (Zan l (k+1))) base rb tb cap l fv pv k d a ps w):=by
 have hlt:=h.z.lt
 have hl:=h.z.hl
 have hd:=h.z.hd
 have hne1:=Nat.ne_of_lt hlt.1
 have hne2:=Nat.ne_of_lt hlt.2
 have cn:=Zbf h.z
 have hk:=h.z.hk
 have hn1:=hwf.more k hk (by rw[hct];decide) (by rw[hct];decide)
 have h2:=hwf.sz k hk
 have h0:=hwf.num k hk hct
 have htx:=hwf.tx _ (List.getElem_mem hk)
 have cnu:=fun W=>Zyh (l[k]'hk).2 W h0
 have hzn:Aside (Zbb (l[k]'hk).2.data.toList=Zbb (l[k]'hk).1.body):=by show _=_;rw[htx]
 generalize hznq:Zbb (l[k]'hk).2.data.toList=zn at *
 clear hznq
 have hkc:Zba (l[k]'hk).1.k=49:=by rw[hct];rfl
 have hcv:Zaq (l[k]'hk)=.agg #[.int .u8 49,.string (l[k]'hk).2,.int .i64 (((l[k]'hk).1.at_:Nat):Int)]:=by rw[←hkc]
 obtain⟨vad,vcap,hpv⟩:=Zaf h.own
 subst hpv
 generalize (l[k]'hk).2=ts at *
 generalize (l[k]'hk).1.at_=p at *
 generalize Zaq (l[k]'hk)=tv at *
 subst hcv
 go_enter func99,ntmps99
 go_wp2_with (first
  |(go_at_call 56;refine cn.mono ?_;rintro r w1 ⟨rfl,hb1⟩;have r1:=(h.below hb1).alloc (Zc3 49 ts p);have g1:=Za9 w1 49 ts p;obtain⟨q0,q1,q2⟩:=g1.facts;have z0:=hb1.size;have ne3:rb≠w1.heap.size:=(by omega);obtain⟨c0,c1,c2,c3,c4,c5,c6⟩:=r1.z.cells;have f6:=r1.z.free 6)
  |(at_builtin;go_loud (obtain⟨i0,hi,hz0,hz1,hz2⟩:=info_parts Tryz.infoPart;refine wpList_append_own_at _ rfl _ _ 127 rfl base 322 i0 _ 5 72 underlying127 hi hz0 hz1 hz2 rfl (by decide) _ _ _ rfl (r1.own.alloc _) ⟨w1.heap.size+1,0,none⟩ 1 1 [.string ⟨#[]⟩,.int .i64 0,.string ⟨#[]⟩,.int .i64 0,.slice none 0 0] rfl rfl (Zc6 w1 _ _ _ _ _ _ _) (fun x hx=>by simp at hx;rcases hx with h | h | h | h | h<;>(subst h;rfl)) (by unfold maxLen;omega) (by omega) (by simp;have:=h.hb;omega) ?_;intro v' w3 hown' hgrow hnil hat;clear hi hz0 hz1 hz2;obtain⟨ad3,cap3,rfl⟩:=Zaf hown';obtain⟨z3,r4⟩:=(r1.alloc _).app hown' hgrow hat;have g3:=g1.below2 hgrow (fun g hg=>(h.below hb1).lt.2.2 g hg |>.2);obtain⟨s0,s1,s2⟩:=g3.facts;obtain⟨d0,d1,d2,d3,d4,d5,d6⟩:=z3.cells;have h6:=z3.free 6;have zz:=hgrow.size;simp at zz;have ne5:w1.heap.size≠w3.heap.size:=(by omega);have ne6:rb≠w3.heap.size:=(by omega);have hconv:=Zib (w3.setCell ⟨rb,6,none⟩ (.slice ad3 (ps.length+1) cap3)) 49 w3.heap.size (by simp);have g4:=g3.touch (rb:=rb) ((Zaa.refl (·=rb) w3).setCell (p:=⟨rb,6,none⟩) (Or.inl rfl) (.slice ad3 (ps.length+1) cap3)) (Ne.symm ne3);have g5:=g4.below (Zab _ (.cells #[.int .u8 49] 5));have g6:=g5.below (Zab _ (.cells #[.string (Zls 49),.int .i64 0,.string ⟨#[]⟩,.int .i64 ((p:Nat):Int),.slice none 0 0] 322));obtain⟨k0,k1,k2⟩:=g5.facts;obtain⟨m0,m1,m2⟩:=g6.facts;clear q0 q1 q2 c0 c1 c2 c3 c4 c5 c6 f6))
  |(go_at_call 149;refine (cnu _).mono ?_;rintro r w9 ⟨rfl,rfl⟩)
  |(go_at_call 97;refine (over_num ((r4.alloc _).alloc _).z hkc hn1).mono ?_;rintro r w5 ⟨rfl,ht5,z5⟩;generalize Zaq (l[k]'hk)=tvv))
 have rW:=((r4.alloc _).alloc _).touch ht5 z5
 have px:=(Px.new ((w3.setCell ⟨rb,6,none⟩ (.slice ad3 (ps.length+1) cap3)).alloc (.cells #[.int .u8 49] 5)) ⟨(Zls 49),zn,⟨#[]⟩,p,(.slice none 0 0)⟩ (B:=w3.heap.size+1) (by simp)).touch ht5 (by show ¬ (w3.heap.size+1=rb);omega)
 have hTW:Zaa (fun g=>g=rb∨some g=(Value.slice vad ps.length vcap).ownBlock) w w5:=(((Zf7 hb1 hgrow hlt.1).alloc _).alloc _).trans (ht5.mono fun g hg=>Or.inl hg)
 have mv:=Zep (w:=w) hat (by simp;omega)
 obtain⟨gb,rfl,hq,hc1,hc2,nb1,hgb,e6,⟨y0,y1,y2,y3,y4,t0,t1,t2,t3,t4⟩,fr⟩:=Zfc rW ps.length (by simp)
 have hgb3:=(hown'.lt gb rfl).2
 have nb2:w3.heap.size+1≠gb:=by omega
 have nb3:gb≠rb:=Ne.symm nb1
 have nb4:gb≠w3.heap.size+1:=by omega
 obtain⟨o0,o1,o2,o3,o4⟩:=px.facts
 have fr0:=fr (ps.length*5)
 have fr1:=fr (ps.length*5+1)
 have fr2:=fr (ps.length*5+2)
 have fr3:=fr (ps.length*5+3)
 have fr4:=fr (ps.length*5+4)
 have FIN:Aside (Zg7 (.ok (.num (l[k]'hk).1.body) (Zan l (k+1))) base rb tb cap l fv (.slice vad ps.length vcap) k d a ps w (.returned (.int .i64 ((ps.length:Nat):Int))) (Zx7 w5 gb ps.length ⟨(Zls 49),zn,⟨#[]⟩,p,(.slice none 0 0)⟩)):=Zk9 (p:=⟨(Zls 49),zn,⟨#[]⟩,p,(.slice none 0 0)⟩) hTW rW mv (Nat.lt_succ_self k) hk (fun W D=>by rw[Ze0];exact⟨Nat.le_refl _,_,by rw[List.getElem?_append_right (Nat.le_refl _)];simp;rfl,rfl,hzn.out,rfl⟩)
 clear rW px hTW mv hat hown' hgrow hnil hconv k0 k1 k2 m0 m1 m2 s0 s1 s2 d0 d1 d2 d3 d4 d5 d6 fr g1 g3 g4 g5 g6 r4 r1 z3 h6 hwf cn hb1 hq z5 ht5
 unfold maxLen at hc2
 generalize w5=W at *
 have hiA:(0:Int)≤((ps.length:Nat):Int):=by omega
 have hiB:((ps.length:Nat):Int)<((ps.length+1:Nat):Int):=by omega
 have hiC:((ps.length:Nat):Int)<(ps.length:Int)+1:=by omega
 go_region_held3 (fun w'=>w'.cell? ⟨rb,6,none⟩=some (.slice (some ⟨gb,0,none⟩) (ps.length+1) cap3)∧w'.cell? ⟨w3.heap.size+1,0,none⟩=some (.string (Zls 49))∧w'.cell? ⟨w3.heap.size+1,1,none⟩=some (.int .i64 zn)∧w'.cell? ⟨w3.heap.size+1,2,none⟩=some (.string ⟨#[]⟩)∧w'.cell? ⟨w3.heap.size+1,3,none⟩=some (.int .i64 ((p:Nat):Int))∧w'.cell? ⟨w3.heap.size+1,4,none⟩=some (.slice none 0 0)) (go_keep) (fail)
 all_goals go_wp2
 go_ret
 first
  | exact FIN.out
  | exact Zfa FIN.out
theorem expr_txt (h:Rp w base rb tb cap l fv pv k d 0 a ps)(hwf:Zfr l)(hsz:ps.length+(l.length-k)≤3000)(hct:(l[k]'h.z.hk).1.k=.txt):
  Calls prog 99 #[.pointer (some ⟨rb,0,none⟩)] w (Zg7 (.ok (.txt (Zj5 (l[k]'h.z.hk).1.body)) (Zan l (k+1))) base rb tb cap l fv pv k d a ps w):=by
 have hlt:=h.z.lt
 have hl:=h.z.hl
 have hd:=h.z.hd
 have hne1:=Nat.ne_of_lt hlt.1
 have hne2:=Nat.ne_of_lt hlt.2
 have cn:=Zbf h.z
 have hk:=h.z.hk
 have hn1:=hwf.more k hk (by rw[hct];decide) (by rw[hct];decide)
 have h2:=hwf.sz k hk
 have h0:=hwf.txt k hk hct
 have htx:=hwf.tx _ (List.getElem_mem hk)
 have hin:((l[k]'hk).2.extract 1 ((l[k]'hk).2.size-1)).data.toList=Zj5 (l[k]'hk).1.body:=by rw[←htx];exact Zrl _
 have hkc:Zba (l[k]'hk).1.k=39:=by rw[hct];rfl
 have hcv:Zaq (l[k]'hk)=.agg #[.int .u8 39,.string (l[k]'hk).2,.int .i64 (((l[k]'hk).1.at_:Nat):Int)]:=by rw[←hkc]
 obtain⟨vad,vcap,hpv⟩:=Zaf h.own
 subst hpv
 generalize (l[k]'hk).2=ts at *
 generalize (l[k]'hk).1.at_=p at *
 generalize Zaq (l[k]'hk)=tv at *
 subst hcv
 go_enter func99,ntmps99
 go_wp2_with (first
  |(go_at_call 56;refine cn.mono ?_;rintro r w1 ⟨rfl,hb1⟩;have r1:=(h.below hb1).alloc (Zc3 39 ts p);have g1:=Za9 w1 39 ts p;obtain⟨q0,q1,q2⟩:=g1.facts;have z0:=hb1.size;have ne3:rb≠w1.heap.size:=(by omega);obtain⟨c0,c1,c2,c3,c4,c5,c6⟩:=r1.z.cells;have f6:=r1.z.free 6)
  |(at_builtin;go_loud (obtain⟨i0,hi,hz0,hz1,hz2⟩:=info_parts Tryz.infoPart;refine wpList_append_own_at _ rfl _ _ 127 rfl base 322 i0 _ 5 72 underlying127 hi hz0 hz1 hz2 rfl (by decide) _ _ _ rfl (r1.own.alloc _) ⟨w1.heap.size+1,0,none⟩ 1 1 [.string ⟨#[]⟩,.int .i64 0,.string ⟨#[]⟩,.int .i64 0,.slice none 0 0] rfl rfl (Zc6 w1 _ _ _ _ _ _ _) (fun x hx=>by simp at hx;rcases hx with h | h | h | h | h<;>(subst h;rfl)) (by unfold maxLen;omega) (by omega) (by simp;have:=h.hb;omega) ?_;intro v' w3 hown' hgrow hnil hat;clear hi hz0 hz1 hz2;obtain⟨ad3,cap3,rfl⟩:=Zaf hown';obtain⟨z3,r4⟩:=(r1.alloc _).app hown' hgrow hat;have g3:=g1.below2 hgrow (fun g hg=>(h.below hb1).lt.2.2 g hg |>.2);obtain⟨s0,s1,s2⟩:=g3.facts;obtain⟨d0,d1,d2,d3,d4,d5,d6⟩:=z3.cells;have h6:=z3.free 6;have zz:=hgrow.size;simp at zz;have ne5:w1.heap.size≠w3.heap.size:=(by omega);have ne6:rb≠w3.heap.size:=(by omega);have hconv:=Zib (w3.setCell ⟨rb,6,none⟩ (.slice ad3 (ps.length+1) cap3)) 39 w3.heap.size (by simp);have g4:=g3.touch (rb:=rb) ((Zaa.refl (·=rb) w3).setCell (p:=⟨rb,6,none⟩) (Or.inl rfl) (.slice ad3 (ps.length+1) cap3)) (Ne.symm ne3);have g5:=g4.below (Zab _ (.cells #[.int .u8 39] 5));have g6:=g5.below (Zab _ (.cells #[.string (Zls 39),.int .i64 0,.string ⟨#[]⟩,.int .i64 ((p:Nat):Int),.slice none 0 0] 322));obtain⟨k0,k1,k2⟩:=g5.facts;obtain⟨m0,m1,m2⟩:=g6.facts;clear q0 q1 q2 c0 c1 c2 c3 c4 c5 c6 f6))
  |(go_at_call 97;refine (over_txt ((r4.alloc _).alloc _).z hkc hn1).mono ?_;rintro r w5 ⟨rfl,ht5,z5⟩;generalize Zaq (l[k]'hk)=tvv))
 have rW:=((r4.alloc _).alloc _).touch ht5 z5
 have px:=(Px.new ((w3.setCell ⟨rb,6,none⟩ (.slice ad3 (ps.length+1) cap3)).alloc (.cells #[.int .u8 39] 5)) ⟨(Zls 39),0,(ts.extract 1 (ts.size-1)),p,(.slice none 0 0)⟩ (B:=w3.heap.size+1) (by simp)).touch ht5 (by show ¬ (w3.heap.size+1=rb);omega)
 have hTW:Zaa (fun g=>g=rb∨some g=(Value.slice vad ps.length vcap).ownBlock) w w5:=(((Zf7 hb1 hgrow hlt.1).alloc _).alloc _).trans (ht5.mono fun g hg=>Or.inl hg)
 have mv:=Zep (w:=w) hat (by simp;omega)
 obtain⟨gb,rfl,hq,hc1,hc2,nb1,hgb,e6,⟨y0,y1,y2,y3,y4,t0,t1,t2,t3,t4⟩,fr⟩:=Zfc rW ps.length (by simp)
 have hgb3:=(hown'.lt gb rfl).2
 have nb2:w3.heap.size+1≠gb:=by omega
 have nb3:gb≠rb:=Ne.symm nb1
 have nb4:gb≠w3.heap.size+1:=by omega
 obtain⟨o0,o1,o2,o3,o4⟩:=px.facts
 have fr0:=fr (ps.length*5)
 have fr1:=fr (ps.length*5+1)
 have fr2:=fr (ps.length*5+2)
 have fr3:=fr (ps.length*5+3)
 have fr4:=fr (ps.length*5+4)
 have FIN:Aside (Zg7 (.ok (.txt (Zj5 (l[k]'hk).1.body)) (Zan l (k+1))) base rb tb cap l fv (.slice vad ps.length vcap) k d a ps w (.returned (.int .i64 ((ps.length:Nat):Int))) (Zx7 w5 gb ps.length ⟨(Zls 39),0,(ts.extract 1 (ts.size-1)),p,(.slice none 0 0)⟩)):=Zk9 (p:=⟨(Zls 39),0,(ts.extract 1 (ts.size-1)),p,(.slice none 0 0)⟩) hTW rW mv (Nat.lt_succ_self k) hk (fun W D=>by rw[Ze0];exact⟨Nat.le_refl _,_,by rw[List.getElem?_append_right (Nat.le_refl _)];simp;rfl,rfl,hin,rfl⟩)
 clear rW px hTW mv hat hown' hgrow hnil hconv k0 k1 k2 m0 m1 m2 s0 s1 s2 d0 d1 d2 d3 d4 d5 d6 fr g1 g3 g4 g5 g6 r4 r1 z3 h6 hwf cn hb1 hq z5 ht5
 unfold maxLen at hc2
 generalize w5=W at *
 have hiA:(0:Int)≤((ps.length:Nat):Int):=by omega
 have hiB:((ps.length:Nat):Int)<((ps.length+1:Nat):Int):=by omega
 have hiC:((ps.length:Nat):Int)<(ps.length:Int)+1:=by omega
 go_region_held3 (fun w'=>w'.cell? ⟨rb,6,none⟩=some (.slice (some ⟨gb,0,none⟩) (ps.length+1) cap3)∧w'.cell? ⟨w3.heap.size+1,0,none⟩=some (.string (Zls 39))∧w'.cell? ⟨w3.heap.size+1,1,none⟩=some (.int .i64 0)∧w'.cell? ⟨w3.heap.size+1,2,none⟩=some (.string (ts.extract 1 (ts.size-1)))∧w'.cell? ⟨w3.heap.size+1,3,none⟩=some (.int .i64 ((p:Nat):Int))∧w'.cell? ⟨w3.heap.size+1,4,none⟩=some (.slice none 0 0)) (go_keep) (fail)
 all_goals go_wp2
 go_ret
 first
  | exact FIN.out
  | exact Zfa FIN.out
theorem Z2q (h:Rp w base rb tb cap l fv pv k d 0 a ps)(hwf:Zfr l)(hsz:ps.length+(l.length-k)≤3000)(hct:(l[k]'h.z.hk).1.k=.word)(hnm:Zbg (l[k]'h.z.hk).1=true):
  Calls prog 99 #[.pointer (some ⟨rb,0,none⟩)] w (Zg7 (.ok (.var (l[k]'h.z.hk).1.body (l[k]'h.z.hk).1.at_) (Zan l (k+1))) base rb tb cap l fv pv k d a ps w):=by
 have hlt:=h.z.lt
 have hl:=h.z.hl
 have hd:=h.z.hd
 have hne1:=Nat.ne_of_lt hlt.1
 have hne2:=Nat.ne_of_lt hlt.2
 have cn:=Zbf h.z
 have hk:=h.z.hk
 have hn1:=hwf.more k hk (by rw[hct];decide) (by rw[hct];decide)
 have h2:=hwf.sz k hk
 have htx:=hwf.tx _ (List.getElem_mem hk)
 have cnm:∀(X:World) (pv:Value),Rz X rb tb cap l fv pv k d 0 a→Calls prog 98 #[.pointer (some ⟨rb,0,none⟩)] X fun r w'=>r=.returned (Zaq (l[k]'hk))∧Zaa (·=rb) X w'∧Rz w' rb tb cap l fv pv (k+1) d 0 a:=fun X pv hz=>Zqu hz hwf.tx hnm hn1
 have hkc:Zba (l[k]'hk).1.k=97:=by rw[hct];rfl
 have hcv:Zaq (l[k]'hk)=.agg #[.int .u8 97,.string (l[k]'hk).2,.int .i64 (((l[k]'hk).1.at_:Nat):Int)]:=by rw[←hkc]
 obtain⟨vad,vcap,hpv⟩:=Zaf h.own
 subst hpv
 generalize (l[k]'hk).2=ts at *
 generalize (l[k]'hk).1.at_=p at *
 generalize Zaq (l[k]'hk)=tv at *
 subst hcv
 go_enter func99,ntmps99
 go_wp2_with (first
  |(go_at_call 56;refine cn.mono ?_;rintro r w1 ⟨rfl,hb1⟩;have r1:=(h.below hb1).alloc (Zc3 97 ts p);have g1:=Za9 w1 97 ts p;obtain⟨q0,q1,q2⟩:=g1.facts;have z0:=hb1.size;have ne3:rb≠w1.heap.size:=(by omega);obtain⟨c0,c1,c2,c3,c4,c5,c6⟩:=r1.z.cells;have f6:=r1.z.free 6)
  |(at_builtin;go_loud (obtain⟨i0,hi,hz0,hz1,hz2⟩:=info_parts Tryz.infoPart;refine wpList_append_own_at _ rfl _ _ 127 rfl base 322 i0 _ 5 72 underlying127 hi hz0 hz1 hz2 rfl (by decide) _ _ _ rfl (r1.own.alloc _) ⟨w1.heap.size+1,0,none⟩ 1 1 [.string ⟨#[]⟩,.int .i64 0,.string ⟨#[]⟩,.int .i64 0,.slice none 0 0] rfl rfl (Zc6 w1 _ _ _ _ _ _ _) (fun x hx=>by simp at hx;rcases hx with h | h | h | h | h<;>(subst h;rfl)) (by unfold maxLen;omega) (by omega) (by simp;have:=h.hb;omega) ?_;intro v' w3 hown' hgrow hnil hat;clear hi hz0 hz1 hz2;obtain⟨ad3,cap3,rfl⟩:=Zaf hown';obtain⟨z3,r4⟩:=(r1.alloc _).app hown' hgrow hat;have g3:=g1.below2 hgrow (fun g hg=>(h.below hb1).lt.2.2 g hg |>.2);obtain⟨s0,s1,s2⟩:=g3.facts;obtain⟨d0,d1,d2,d3,d4,d5,d6⟩:=z3.cells;have h6:=z3.free 6;have zz:=hgrow.size;simp at zz;have ne5:w1.heap.size≠w3.heap.size:=(by omega);have ne6:rb≠w3.heap.size:=(by omega);have hconv:=Zib (w3.setCell ⟨rb,6,none⟩ (.slice ad3 (ps.length+1) cap3)) 97 w3.heap.size (by simp);have g4:=g3.touch (rb:=rb) ((Zaa.refl (·=rb) w3).setCell (p:=⟨rb,6,none⟩) (Or.inl rfl) (.slice ad3 (ps.length+1) cap3)) (Ne.symm ne3);have g5:=g4.below (Zab _ (.cells #[.int .u8 97] 5));have g6:=g5.below (Zab _ (.cells #[.string (Zls 97),.int .i64 0,.string ⟨#[]⟩,.int .i64 ((p:Nat):Int),.slice none 0 0] 322));obtain⟨k0,k1,k2⟩:=g5.facts;obtain⟨m0,m1,m2⟩:=g6.facts;clear q0 q1 q2 c0 c1 c2 c3 c4 c5 c6 f6))
  |(go_at_call 98;go_loud (refine (cnm _ _ ((r4.alloc _).alloc _).z).mono ?_;rintro r w5 ⟨rfl,ht5,z5⟩;have px5:=(Px.new ((w3.setCell ⟨rb,6,none⟩ (.slice ad3 (ps.length+1) cap3)).alloc (.cells #[.int .u8 97] 5)) ⟨(Zls 97),0,⟨#[]⟩,p,(.slice none 0 0)⟩ (B:=w3.heap.size+1) (by simp)).touch ht5 (by show ¬ (w3.heap.size+1=rb);omega);have gg:=px5.below (Zab w5 (Zc3 97 ts p));have gf:=gg.free 2;have sz5:=ht5.size;simp at sz5;have ne8:w3.heap.size+1≠w5.heap.size:=(by omega);have ne9:w5.heap.size≠w3.heap.size+1:=(by omega);obtain⟨n0,n1,n2,n3,n4⟩:=gg.facts;obtain⟨j0,j1,j2⟩:=(Za9 w5 97 ts p).facts)))
 have rW:=(((((r4.alloc _).alloc _).touch ht5 z5).alloc (Zc3 97 ts p)).other (B:=w3.heap.size+1) (Nat.ne_of_lt (by have:=hlt.1;omega)) (Nat.ne_of_lt (by have:=hlt.2;omega)) (fun e=>by have:=(hown'.lt _ e.symm).2;omega) 2 (.string ts))
 have px:=gg.setS ts
 have hTW:Zaa (fun g=>g=rb∨some g=(Value.slice vad ps.length vcap).ownBlock) w ((w5.alloc (Zc3 97 ts p)).setCell ⟨w3.heap.size+1,2,none⟩ (.string ts)):=(((((Zf7 hb1 hgrow hlt.1).alloc _).alloc _).trans (ht5.mono fun g hg=>Or.inl hg)).alloc (Zc3 97 ts p)).setCell (p:=⟨w3.heap.size+1,2,none⟩) (Or.inr (by show w.heap.size≤w3.heap.size+1;omega)) _
 have mv:=Zep (w:=w) hat (by simp;omega)
 obtain⟨gb,rfl,hq,hc1,hc2,nb1,hgb,e6,⟨y0,y1,y2,y3,y4,t0,t1,t2,t3,t4⟩,fr⟩:=Zfc rW ps.length (by simp)
 have hgb3:=(hown'.lt gb rfl).2
 have nb2:w3.heap.size+1≠gb:=by omega
 have nb3:gb≠rb:=Ne.symm nb1
 have nb4:gb≠w3.heap.size+1:=by omega
 obtain⟨o0,o1,o2,o3,o4⟩:=px.facts
 have fr0:=fr (ps.length*5)
 have fr1:=fr (ps.length*5+1)
 have fr2:=fr (ps.length*5+2)
 have fr3:=fr (ps.length*5+3)
 have fr4:=fr (ps.length*5+4)
 have FIN:Aside (Zg7 (.ok (.var (l[k]'hk).1.body p) (Zan l (k+1))) base rb tb cap l fv (.slice vad ps.length vcap) k d a ps w (.returned (.int .i64 ((ps.length:Nat):Int))) (Zx7 ((w5.alloc (Zc3 97 ts p)).setCell ⟨w3.heap.size+1,2,none⟩ (.string ts)) gb ps.length ⟨(Zls 97),0,ts,p,(.slice none 0 0)⟩)):=Zk9 (p:=⟨(Zls 97),0,ts,p,(.slice none 0 0)⟩) hTW rW mv (Nat.lt_succ_self k) hk (fun W D=>by rw[Ze0];exact⟨Nat.le_refl _,_,by rw[List.getElem?_append_right (Nat.le_refl _)];simp;rfl,rfl,htx,rfl,rfl⟩)
 clear rW px hTW mv hat hown' hgrow hnil hconv k0 k1 k2 m0 m1 m2 s0 s1 s2 d0 d1 d2 d3 d4 d5 d6 fr g1 g3 g4 g5 g6 r4 r1 z3 h6 hwf cn hb1 hq z5 ht5 px5 gg gf n0 n1 n2 n3 n4 j0 j1 j2 cnm
 unfold maxLen at hc2
 generalize ((w5.alloc (Zc3 97 ts p)).setCell ⟨w3.heap.size+1,2,none⟩ (.string ts))=W at *
 have hiA:(0:Int)≤((ps.length:Nat):Int):=by omega
 have hiB:((ps.length:Nat):Int)<((ps.length+1:Nat):Int):=by omega
 have hiC:((ps.length:Nat):Int)<(ps.length:Int)+1:=by omega
 go_region_held3 (fun w'=>w'.cell? ⟨rb,6,none⟩=some (.slice (some ⟨gb,0,none⟩) (ps.length+1) cap3)∧w'.cell? ⟨w3.heap.size+1,0,none⟩=some (.string (Zls 97))∧w'.cell? ⟨w3.heap.size+1,1,none⟩=some (.int .i64 0)∧w'.cell? ⟨w3.heap.size+1,2,none⟩=some (.string ts)∧w'.cell? ⟨w3.heap.size+1,3,none⟩=some (.int .i64 ((p:Nat):Int))∧w'.cell? ⟨w3.heap.size+1,4,none⟩=some (.slice none 0 0)) (go_keep) (fail)
 all_goals go_wp2
 go_ret
 first
  | exact FIN.out
  | exact Zfa FIN.out
theorem Zg1 (h:Rp w base rb tb cap l fv pv k d 0 a ps)(hwf:Zfr l)(hsz:ps.length+(l.length-k)≤3000)(c:Int)(hct:Zba (l[k]'h.z.hk).1.k=c)(m1:(c==49)=false)(m2:(c==39)=false)(m3:(c==40)=false)(hnm:Zbg (l[k]'h.z.hk).1=false):
  Calls prog 99 #[.pointer (some ⟨rb,0,none⟩)] w (Zg7 (.err 2 (l[k]'h.z.hk).1.at_) base rb tb cap l fv pv k d a ps w):=by
 have hlt:=h.z.lt
 have hl:=h.z.hl
 have hd:=h.z.hd
 have hne1:=Nat.ne_of_lt hlt.1
 have hne2:=Nat.ne_of_lt hlt.2
 have cn:=Zbf h.z
 have hk:=h.z.hk
 have hcv:Zaq (l[k]'hk)=.agg #[.int .u8 c,.string (l[k]'hk).2,.int .i64 (((l[k]'hk).1.at_:Nat):Int)]:=by rw[←hct]
 have cnm:∀(X:World) (pv:Value),Rz X rb tb cap l fv pv k d 0 a→Calls prog 98 #[.pointer (some ⟨rb,0,none⟩)] X fun r w'=>r=.returned (Zaq (l[k]'hk))∧Zaa (·=rb) X w'∧Rz w' rb tb cap l fv pv k d 2 (l[k]'hk).1.at_:=fun X pv hz=>Zqv hz hwf.tx hnm
 obtain⟨vad,vcap,hpv⟩:=Zaf h.own
 subst hpv
 generalize (l[k]'hk).2=ts at *
 generalize (l[k]'hk).1.at_=p at *
 generalize Zaq (l[k]'hk)=tv at *
 subst hcv
 go_enter func99,ntmps99
 go_wp2_with (first
  |(go_at_call 56;refine cn.mono ?_;rintro r w1 ⟨rfl,hb1⟩;have r1:=(h.below hb1).alloc (Zc3 c ts p);have g1:=Za9 w1 c ts p;obtain⟨q0,q1,q2⟩:=g1.facts;have z0:=hb1.size;have ne3:rb≠w1.heap.size:=(by omega);obtain⟨c0,c1,c2,c3,c4,c5,c6⟩:=r1.z.cells;have f6:=r1.z.free 6)
  |(at_builtin;go_loud (obtain⟨i0,hi,hz0,hz1,hz2⟩:=info_parts Tryz.infoPart;refine wpList_append_own_at _ rfl _ _ 127 rfl base 322 i0 _ 5 72 underlying127 hi hz0 hz1 hz2 rfl (by decide) _ _ _ rfl (r1.own.alloc _) ⟨w1.heap.size+1,0,none⟩ 1 1 [.string ⟨#[]⟩,.int .i64 0,.string ⟨#[]⟩,.int .i64 0,.slice none 0 0] rfl rfl (Zc6 w1 _ _ _ _ _ _ _) (fun x hx=>by simp at hx;rcases hx with h | h | h | h | h<;>(subst h;rfl)) (by unfold maxLen;omega) (by omega) (by simp;have:=h.hb;omega) ?_;intro v' w3 hown' hgrow hnil hat;clear hi hz0 hz1 hz2;obtain⟨ad3,cap3,rfl⟩:=Zaf hown';obtain⟨z3,r4⟩:=(r1.alloc _).app hown' hgrow hat;have g3:=g1.below2 hgrow (fun g hg=>(h.below hb1).lt.2.2 g hg |>.2);obtain⟨s0,s1,s2⟩:=g3.facts;obtain⟨d0,d1,d2,d3,d4,d5,d6⟩:=z3.cells;have h6:=z3.free 6;have zz:=hgrow.size;simp at zz;have ne5:w1.heap.size≠w3.heap.size:=(by omega);have ne6:rb≠w3.heap.size:=(by omega);have hconv:=Zib (w3.setCell ⟨rb,6,none⟩ (.slice ad3 (ps.length+1) cap3)) c w3.heap.size (by simp);have g4:=g3.touch (rb:=rb) ((Zaa.refl (·=rb) w3).setCell (p:=⟨rb,6,none⟩) (Or.inl rfl) (.slice ad3 (ps.length+1) cap3)) (Ne.symm ne3);have g5:=g4.below (Zab _ (.cells #[.int .u8 c] 5));have g6:=g5.below (Zab _ (.cells #[.string (Zls c),.int .i64 0,.string ⟨#[]⟩,.int .i64 ((p:Nat):Int),.slice none 0 0] 322));obtain⟨k0,k1,k2⟩:=g5.facts;obtain⟨m0,m1,m2⟩:=g6.facts;clear q0 q1 q2 c0 c1 c2 c3 c4 c5 c6 f6))
  |(go_at_call 98;go_loud (refine (cnm _ _ ((r4.alloc _).alloc _).z).mono ?_;rintro r w5 ⟨rfl,ht5,z5⟩;have px5:=(Px.new ((w3.setCell ⟨rb,6,none⟩ (.slice ad3 (ps.length+1) cap3)).alloc (.cells #[.int .u8 c] 5)) ⟨(Zls c),0,⟨#[]⟩,p,(.slice none 0 0)⟩ (B:=w3.heap.size+1) (by simp)).touch ht5 (by show ¬ (w3.heap.size+1=rb);omega);have gg:=px5.below (Zab w5 (Zc3 c ts p));have gf:=gg.free 2;have sz5:=ht5.size;simp at sz5;have ne8:w3.heap.size+1≠w5.heap.size:=(by omega);have ne9:w5.heap.size≠w3.heap.size+1:=(by omega);obtain⟨n0,n1,n2,n3,n4⟩:=gg.facts;obtain⟨j0,j1,j2⟩:=(Za9 w5 c ts p).facts)))
 have rW:=(((((r4.alloc _).alloc _).touch ht5 z5).alloc (Zc3 c ts p)).other (B:=w3.heap.size+1) (Nat.ne_of_lt (by have:=hlt.1;omega)) (Nat.ne_of_lt (by have:=hlt.2;omega)) (fun e=>by have:=(hown'.lt _ e.symm).2;omega) 2 (.string ts))
 have px:=gg.setS ts
 have hTW:Zaa (fun g=>g=rb∨some g=(Value.slice vad ps.length vcap).ownBlock) w ((w5.alloc (Zc3 c ts p)).setCell ⟨w3.heap.size+1,2,none⟩ (.string ts)):=(((((Zf7 hb1 hgrow hlt.1).alloc _).alloc _).trans (ht5.mono fun g hg=>Or.inl hg)).alloc (Zc3 c ts p)).setCell (p:=⟨w3.heap.size+1,2,none⟩) (Or.inr (by show w.heap.size≤w3.heap.size+1;omega)) _
 have mv:=Zep (w:=w) hat (by simp;omega)
 obtain⟨gb,rfl,hq,hc1,hc2,nb1,hgb,e6,⟨y0,y1,y2,y3,y4,t0,t1,t2,t3,t4⟩,fr⟩:=Zfc rW ps.length (by simp)
 have hgb3:=(hown'.lt gb rfl).2
 have nb2:w3.heap.size+1≠gb:=by omega
 have nb3:gb≠rb:=Ne.symm nb1
 have nb4:gb≠w3.heap.size+1:=by omega
 obtain⟨o0,o1,o2,o3,o4⟩:=px.facts
 have fr0:=fr (ps.length*5)
 have fr1:=fr (ps.length*5+1)
 have fr2:=fr (ps.length*5+2)
 have fr3:=fr (ps.length*5+3)
 have fr4:=fr (ps.length*5+4)
 have FIN:Aside (Zg7 (.err 2 p) base rb tb cap l fv (.slice vad ps.length vcap) k d a ps w (.returned (.int .i64 ((ps.length:Nat):Int))) (Zx7 ((w5.alloc (Zc3 c ts p)).setCell ⟨w3.heap.size+1,2,none⟩ (.string ts)) gb ps.length ⟨(Zls c),0,ts,p,(.slice none 0 0)⟩)):=Zt5 (p:=⟨(Zls c),0,ts,p,(.slice none 0 0)⟩) hTW rW mv (by simp) (by decide)
 clear rW px hTW mv hat hown' hgrow hnil hconv k0 k1 k2 m0 m1 m2 s0 s1 s2 d0 d1 d2 d3 d4 d5 d6 fr g1 g3 g4 g5 g6 r4 r1 z3 h6 hwf cn hb1 hq z5 ht5 px5 gg gf n0 n1 n2 n3 n4 j0 j1 j2 cnm
 unfold maxLen at hc2
 generalize ((w5.alloc (Zc3 c ts p)).setCell ⟨w3.heap.size+1,2,none⟩ (.string ts))=W at *
 have hiA:(0:Int)≤((ps.length:Nat):Int):=by omega
 have hiB:((ps.length:Nat):Int)<((ps.length+1:Nat):Int):=by omega
 have hiC:((ps.length:Nat):Int)<(ps.length:Int)+1:=by omega
 go_region_held3 (fun w'=>w'.cell? ⟨rb,6,none⟩=some (.slice (some ⟨gb,0,none⟩) (ps.length+1) cap3)∧w'.cell? ⟨w3.heap.size+1,0,none⟩=some (.string (Zls c))∧w'.cell? ⟨w3.heap.size+1,1,none⟩=some (.int .i64 0)∧w'.cell? ⟨w3.heap.size+1,2,none⟩=some (.string ts)∧w'.cell? ⟨w3.heap.size+1,3,none⟩=some (.int .i64 ((p:Nat):Int))∧w'.cell? ⟨w3.heap.size+1,4,none⟩=some (.slice none 0 0)) (go_keep) (fail)
 all_goals go_wp2
 go_ret
 first
  | exact FIN.out
  | exact Zfa FIN.out
theorem Zru (h:Rp w base rb tb cap l fv pv k d 0 a ps)(_hwf:Zfr l)(hsz:ps.length+(l.length-k)≤3000)(hct:(l[k]'h.z.hk).1.k=.opn)(c q:Nat)(cf:∀(X:World) (pv':Value) (qs:List Zaw),Rp X base rb tb cap l fv pv' k d 0 a qs→qs.length+(l.length-k)≤3001→Calls prog 150 #[.pointer (some ⟨rb,0,none⟩)] X (Zmd (.err c q) base rb tb cap l fv pv' k d a qs X)):
  Calls prog 99 #[.pointer (some ⟨rb,0,none⟩)] w (Zg7 (.err c q) base rb tb cap l fv pv k d a ps w):=by
 have hlt:=h.z.lt
 have hl:=h.z.hl
 have hd:=h.z.hd
 have hne1:=Nat.ne_of_lt hlt.1
 have hne2:=Nat.ne_of_lt hlt.2
 have cn:=Zbf h.z
 have hk:=h.z.hk
 have hcv:Zaq (l[k]'hk)=.agg #[.int .u8 40,.string (l[k]'hk).2,.int .i64 (((l[k]'hk).1.at_:Nat):Int)]:=by simp[hct,Zba]
 obtain⟨vad,vcap,hpv⟩:=Zaf h.own
 subst hpv
 generalize (l[k]'hk).2=ts at *
 generalize (l[k]'hk).1.at_=p at *
 generalize Zaq (l[k]'hk)=tv at *
 subst hcv
 go_enter func99,ntmps99
 go_wp2_with (first
  |(go_at_call 56;refine cn.mono ?_;rintro r w1 ⟨rfl,hb1⟩;have r1:=(h.below hb1).alloc (Zc3 40 ts p);have g1:=Za9 w1 40 ts p;obtain⟨q0,q1,q2⟩:=g1.facts;have z0:=hb1.size;have ne3:rb≠w1.heap.size:=(by omega);obtain⟨c0,c1,c2,c3,c4,c5,c6⟩:=r1.z.cells;have f6:=r1.z.free 6)
  |(at_builtin;go_loud (obtain⟨i0,hi,hz0,hz1,hz2⟩:=info_parts Tryz.infoPart;refine wpList_append_own_at _ rfl _ _ 127 rfl base 322 i0 _ 5 72 underlying127 hi hz0 hz1 hz2 rfl (by decide) _ _ _ rfl (r1.own.alloc _) ⟨w1.heap.size+1,0,none⟩ 1 1 [.string ⟨#[]⟩,.int .i64 0,.string ⟨#[]⟩,.int .i64 0,.slice none 0 0] rfl rfl (Zc6 w1 _ _ _ _ _ _ _) (fun x hx=>by simp at hx;rcases hx with h | h | h | h | h<;>(subst h;rfl)) (by unfold maxLen;omega) (by omega) (by simp;have:=h.hb;omega) ?_;intro v' w3 hown' hgrow hnil hat;clear hi hz0 hz1 hz2;obtain⟨ad3,cap3,rfl⟩:=Zaf hown';obtain⟨z3,r4⟩:=(r1.alloc _).app hown' hgrow hat;have g3:=g1.below2 hgrow (fun g hg=>(h.below hb1).lt.2.2 g hg |>.2);obtain⟨s0,s1,s2⟩:=g3.facts;obtain⟨d0,d1,d2,d3,d4,d5,d6⟩:=z3.cells;have h6:=z3.free 6;have zz:=hgrow.size;simp at zz;have ne5:w1.heap.size≠w3.heap.size:=(by omega);have ne6:rb≠w3.heap.size:=(by omega);have hconv:=Zib (w3.setCell ⟨rb,6,none⟩ (.slice ad3 (ps.length+1) cap3)) 40 w3.heap.size (by simp);have g4:=g3.touch (rb:=rb) ((Zaa.refl (·=rb) w3).setCell (p:=⟨rb,6,none⟩) (Or.inl rfl) (.slice ad3 (ps.length+1) cap3)) (Ne.symm ne3);have g5:=g4.below (Zab _ (.cells #[.int .u8 40] 5));have g6:=g5.below (Zab _ (.cells #[.string (Zls 40),.int .i64 0,.string ⟨#[]⟩,.int .i64 ((p:Nat):Int),.slice none 0 0] 322));obtain⟨k0,k1,k2⟩:=g5.facts;obtain⟨m0,m1,m2⟩:=g6.facts;clear q0 q1 q2 c0 c1 c2 c3 c4 c5 c6 f6))
  |(go_at_call 150;go_loud (refine (cf _ _ _ ((r4.alloc _).alloc _) (by simp;omega)).mono ?_;rintro r w5 ⟨ht5,k',d',pv',ps',q,qad,qnn,qcp,rfl,hkv,r5,hlen5,mv5,hc5⟩;obtain⟨qo,qn,qz,qa,qk⟩:=q;simp only at hkv;subst hkv;obtain⟨ad5,cap5,hs5⟩:=Zaf r5.own;subst hs5;have px5:=(Px.new ((w3.setCell ⟨rb,6,none⟩ (.slice ad3 (ps.length+1) cap3)).alloc (.cells #[.int .u8 40] 5)) ⟨(Zls 40),0,⟨#[]⟩,p,(.slice none 0 0)⟩ (B:=w3.heap.size+1) (by simp)).touch ht5 (by rintro (g | g);(exact absurd g (by omega));(exact absurd (hown'.lt _ g.symm).2 (by omega)));obtain⟨n0,n1,n2,n3,n4⟩:=px5.facts;have u0:=px5.free 0;have u1:=px5.free 1;have u2:=px5.free 2;have u3:=px5.free 3;have u4:=px5.free 4)))
 have hlen6:ps.length<ps'.length:=by simp at hlen5;omega
 have rW:=r5.other5 (B:=w3.heap.size+1) (Nat.ne_of_lt (by have:=hlt.1;omega)) (Nat.ne_of_lt (by have:=hlt.2;omega)) (fun e=>by have:=Zmp mv5 e (fun g hg=>(hown'.lt g hg).2) (by simp);omega) (.string qo) (.int .i64 qn) (.string qz) (.int .i64 ((qa:Nat):Int)) (.slice qad qnn qcp)
 have px:=px5.set5 ⟨qo,qn,qz,qa,(.slice qad qnn qcp)⟩
 have hTW:Zaa (fun g=>g=rb∨some g=(Value.slice vad ps.length vcap).ownBlock) w (((((w5.setCell ⟨w3.heap.size+1,0,none⟩ (.string qo)).setCell ⟨w3.heap.size+1,1,none⟩ (.int .i64 qn)).setCell ⟨w3.heap.size+1,2,none⟩ (.string qz)).setCell ⟨w3.heap.size+1,3,none⟩ (.int .i64 ((qa:Nat):Int))).setCell ⟨w3.heap.size+1,4,none⟩ (.slice qad qnn qcp)):=(Zcy (((Zf7 hb1 hgrow hlt.1).alloc _).alloc _) ht5 (fun g hg=>by rcases hg with e | e;(exact Or.inl (Or.inl e));(rcases (Zep (w:=w) hat (by simp;omega)).own g e with e2 | e2;(exact Or.inl (Or.inr e2));(exact Or.inr e2)))).set5 (by omega) _ _ _ _ _
 have mv:=(Zep (w:=w) hat (by simp;omega)).trans mv5 (by simp;omega)
 obtain⟨gb,rfl,hq,hc1,hc2,nb1,hgb,e6,⟨y0,y1,y2,y3,y4,t0,t1,t2,t3,t4⟩,fr⟩:=Zfc rW ps.length hlen6
 have hgb3:=Zmp (gb:=gb) mv5 rfl (fun g hg=>(hown'.lt g hg).2) (by simp)
 have nb2:w3.heap.size+1≠gb:=by omega
 have nb3:gb≠rb:=Ne.symm nb1
 have nb4:gb≠w3.heap.size+1:=by omega
 obtain⟨o0,o1,o2,o3,o4⟩:=px.facts
 have fr0:=fr (ps.length*5)
 have fr1:=fr (ps.length*5+1)
 have fr2:=fr (ps.length*5+2)
 have fr3:=fr (ps.length*5+3)
 have fr4:=fr (ps.length*5+4)
 have FIN:Aside (Zg7 (.err c q) base rb tb cap l fv (.slice vad ps.length vcap) k d a ps w (.returned (.int .i64 ((ps.length:Nat):Int))) (Zx7 (((((w5.setCell ⟨w3.heap.size+1,0,none⟩ (.string qo)).setCell ⟨w3.heap.size+1,1,none⟩ (.int .i64 qn)).setCell ⟨w3.heap.size+1,2,none⟩ (.string qz)).setCell ⟨w3.heap.size+1,3,none⟩ (.int .i64 ((qa:Nat):Int))).setCell ⟨w3.heap.size+1,4,none⟩ (.slice qad qnn qcp)) gb ps.length ⟨qo,qn,qz,qa,(.slice qad qnn qcp)⟩)):=Zt5 (p:=⟨qo,qn,qz,qa,(.slice qad qnn qcp)⟩) hTW rW mv hlen6 hc5
 clear rW px hTW mv hat hown' hgrow hnil hconv k0 k1 k2 m0 m1 m2 s0 s1 s2 d0 d1 d2 d3 d4 d5 d6 fr g1 g3 g4 g5 g6 r4 r1 z3 h6 _hwf cn hb1 hq ht5 px5 n0 n1 n2 n3 n4 u0 u1 u2 u3 u4 r5 mv5 hlen5 cf
 unfold maxLen at hc2
 generalize (((((w5.setCell ⟨w3.heap.size+1,0,none⟩ (.string qo)).setCell ⟨w3.heap.size+1,1,none⟩ (.int .i64 qn)).setCell ⟨w3.heap.size+1,2,none⟩ (.string qz)).setCell ⟨w3.heap.size+1,3,none⟩ (.int .i64 ((qa:Nat):Int))).setCell ⟨w3.heap.size+1,4,none⟩ (.slice qad qnn qcp))=W at *
 have hiA:(0:Int)≤((ps.length:Nat):Int):=by omega
 have hiB:((ps.length:Nat):Int)<((ps.length+1:Nat):Int):=by omega
 have hiC:((ps.length:Nat):Int)<(ps.length:Int)+1:=by omega
 go_region_held3 (fun w'=>w'.cell? ⟨rb,6,none⟩=some (.slice (some ⟨gb,0,none⟩) ps'.length cap5)∧w'.cell? ⟨w3.heap.size+1,0,none⟩=some (.string qo)∧w'.cell? ⟨w3.heap.size+1,1,none⟩=some (.int .i64 qn)∧w'.cell? ⟨w3.heap.size+1,2,none⟩=some (.string qz)∧w'.cell? ⟨w3.heap.size+1,3,none⟩=some (.int .i64 ((qa:Nat):Int))∧w'.cell? ⟨w3.heap.size+1,4,none⟩=some (.slice qad qnn qcp)) (go_keep) (fail)
 all_goals go_wp2
 go_ret
 first
  | exact FIN.out
  | exact Zfa FIN.out
theorem Zt0 (h:Rp w base rb tb cap l fv pv k d 0 a ps)(_hwf:Zfr l)(hsz:ps.length+(l.length-k)≤3000)(hct:(l[k]'h.z.hk).1.k=.opn)(ex:Ex)(rest:List Tok)(cf:∀(X:World) (pv':Value) (qs:List Zaw),Rp X base rb tb cap l fv pv' k d 0 a qs→qs.length+(l.length-k)≤3001→Calls prog 150 #[.pointer (some ⟨rb,0,none⟩)] X (Zmd (.ok ex rest) base rb tb cap l fv pv' k d a qs X)):
  Calls prog 99 #[.pointer (some ⟨rb,0,none⟩)] w (Zg7 (.ok ex rest) base rb tb cap l fv pv k d a ps w):=by
 have hlt:=h.z.lt
 have hl:=h.z.hl
 have hd:=h.z.hd
 have hne1:=Nat.ne_of_lt hlt.1
 have hne2:=Nat.ne_of_lt hlt.2
 have cn:=Zbf h.z
 have hk:=h.z.hk
 have hcv:Zaq (l[k]'hk)=.agg #[.int .u8 40,.string (l[k]'hk).2,.int .i64 (((l[k]'hk).1.at_:Nat):Int)]:=by simp[hct,Zba]
 obtain⟨vad,vcap,hpv⟩:=Zaf h.own
 subst hpv
 generalize (l[k]'hk).2=ts at *
 generalize (l[k]'hk).1.at_=p at *
 generalize Zaq (l[k]'hk)=tv at *
 subst hcv
 go_enter func99,ntmps99
 go_wp2_with (first
  |(go_at_call 56;refine cn.mono ?_;rintro r w1 ⟨rfl,hb1⟩;have r1:=(h.below hb1).alloc (Zc3 40 ts p);have g1:=Za9 w1 40 ts p;obtain⟨q0,q1,q2⟩:=g1.facts;have z0:=hb1.size;have ne3:rb≠w1.heap.size:=(by omega);obtain⟨c0,c1,c2,c3,c4,c5,c6⟩:=r1.z.cells;have f6:=r1.z.free 6)
  |(at_builtin;go_loud (obtain⟨i0,hi,hz0,hz1,hz2⟩:=info_parts Tryz.infoPart;refine wpList_append_own_at _ rfl _ _ 127 rfl base 322 i0 _ 5 72 underlying127 hi hz0 hz1 hz2 rfl (by decide) _ _ _ rfl (r1.own.alloc _) ⟨w1.heap.size+1,0,none⟩ 1 1 [.string ⟨#[]⟩,.int .i64 0,.string ⟨#[]⟩,.int .i64 0,.slice none 0 0] rfl rfl (Zc6 w1 _ _ _ _ _ _ _) (fun x hx=>by simp at hx;rcases hx with h | h | h | h | h<;>(subst h;rfl)) (by unfold maxLen;omega) (by omega) (by simp;have:=h.hb;omega) ?_;intro v' w3 hown' hgrow hnil hat;clear hi hz0 hz1 hz2;obtain⟨ad3,cap3,rfl⟩:=Zaf hown';obtain⟨z3,r4⟩:=(r1.alloc _).app hown' hgrow hat;have g3:=g1.below2 hgrow (fun g hg=>(h.below hb1).lt.2.2 g hg |>.2);obtain⟨s0,s1,s2⟩:=g3.facts;obtain⟨d0,d1,d2,d3,d4,d5,d6⟩:=z3.cells;have h6:=z3.free 6;have zz:=hgrow.size;simp at zz;have ne5:w1.heap.size≠w3.heap.size:=(by omega);have ne6:rb≠w3.heap.size:=(by omega);have hconv:=Zib (w3.setCell ⟨rb,6,none⟩ (.slice ad3 (ps.length+1) cap3)) 40 w3.heap.size (by simp);have g4:=g3.touch (rb:=rb) ((Zaa.refl (·=rb) w3).setCell (p:=⟨rb,6,none⟩) (Or.inl rfl) (.slice ad3 (ps.length+1) cap3)) (Ne.symm ne3);have g5:=g4.below (Zab _ (.cells #[.int .u8 40] 5));have g6:=g5.below (Zab _ (.cells #[.string (Zls 40),.int .i64 0,.string ⟨#[]⟩,.int .i64 ((p:Nat):Int),.slice none 0 0] 322));obtain⟨k0,k1,k2⟩:=g5.facts;obtain⟨m0,m1,m2⟩:=g6.facts;clear q0 q1 q2 c0 c1 c2 c3 c4 c5 c6 f6))
  |(go_at_call 150;go_loud (refine (cf _ _ _ ((r4.alloc _).alloc _) (by simp;omega)).mono ?_;rintro r w5 ⟨ht5,k',pv',ps',q,qad,qnn,qcp,wd,nm,at_,ks,js,rfl,hkv,r5,hrest5,hpre5,mv5,hex5,hop5,hs5n,hat5,hrow5,hrep5,hsz5⟩;obtain⟨qo,qn,qz,qa,qk⟩:=q;simp only at hkv;subst hkv;simp only at hat5;subst hat5;obtain⟨ad5,cap5,hs5⟩:=Zaf r5.own;subst hs5;have px5:=(Px.new ((w3.setCell ⟨rb,6,none⟩ (.slice ad3 (ps.length+1) cap3)).alloc (.cells #[.int .u8 40] 5)) ⟨(Zls 40),0,⟨#[]⟩,p,(.slice none 0 0)⟩ (B:=w3.heap.size+1) (by simp)).touch ht5 (by rintro (g | g);(exact absurd g (by omega));(exact absurd (hown'.lt _ g.symm).2 (by omega)));obtain⟨n0,n1,n2,n3,n4⟩:=px5.facts;have u0:=px5.free 0;have u1:=px5.free 1;have u2:=px5.free 2;have u3:=px5.free 3;have u4:=px5.free 4)))
 have hlen6:ps.length<ps'.length:=by have:=hpre5.length_le;simp at this;omega
 have rW:=r5.other5 (B:=w3.heap.size+1) (Nat.ne_of_lt (by have:=hlt.1;omega)) (Nat.ne_of_lt (by have:=hlt.2;omega)) (fun e=>by have:=Zmp mv5 e (fun g hg=>(hown'.lt g hg).2) (by simp);omega) (.string qo) (.int .i64 qn) (.string qz) (.int .i64 ((qa:Nat):Int)) (.slice qad qnn qcp)
 have px:=px5.set5 ⟨qo,qn,qz,qa,(.slice qad qnn qcp)⟩
 have hTW:Zaa (fun g=>g=rb∨some g=(Value.slice vad ps.length vcap).ownBlock) w (((((w5.setCell ⟨w3.heap.size+1,0,none⟩ (.string qo)).setCell ⟨w3.heap.size+1,1,none⟩ (.int .i64 qn)).setCell ⟨w3.heap.size+1,2,none⟩ (.string qz)).setCell ⟨w3.heap.size+1,3,none⟩ (.int .i64 ((qa:Nat):Int))).setCell ⟨w3.heap.size+1,4,none⟩ (.slice qad qnn qcp)):=(Zcy (((Zf7 hb1 hgrow hlt.1).alloc _).alloc _) ht5 (fun g hg=>by rcases hg with e | e;(exact Or.inl (Or.inl e));(rcases (Zep (w:=w) hat (by simp;omega)).own g e with e2 | e2;(exact Or.inl (Or.inr e2));(exact Or.inr e2)))).set5 (by omega) _ _ _ _ _
 have mv:=(Zep (w:=w) hat (by simp;omega)).trans mv5 (by simp;omega)
 obtain⟨gb,rfl,hq,hc1,hc2,nb1,hgb,e6,⟨y0,y1,y2,y3,y4,t0,t1,t2,t3,t4⟩,fr⟩:=Zfc rW ps.length hlen6
 have hgb3:=Zmp (gb:=gb) mv5 rfl (fun g hg=>(hown'.lt g hg).2) (by simp)
 have nb2:w3.heap.size+1≠gb:=by omega
 have nb3:gb≠rb:=Ne.symm nb1
 have nb4:gb≠w3.heap.size+1:=by omega
 obtain⟨o0,o1,o2,o3,o4⟩:=px.facts
 have fr0:=fr (ps.length*5)
 have fr1:=fr (ps.length*5+1)
 have fr2:=fr (ps.length*5+2)
 have fr3:=fr (ps.length*5+3)
 have fr4:=fr (ps.length*5+4)
 have FIN:Aside (Zg7 (.ok ex rest) base rb tb cap l fv (.slice vad ps.length vcap) k d a ps w (.returned (.int .i64 ((ps.length:Nat):Int))) (Zx7 (((((w5.setCell ⟨w3.heap.size+1,0,none⟩ (.string qo)).setCell ⟨w3.heap.size+1,1,none⟩ (.int .i64 qn)).setCell ⟨w3.heap.size+1,2,none⟩ (.string qz)).setCell ⟨w3.heap.size+1,3,none⟩ (.int .i64 ((qa:Nat):Int))).setCell ⟨w3.heap.size+1,4,none⟩ (.slice qad qnn qcp)) gb ps.length ⟨qo,qn,qz,qa,(.slice qad qnn qcp)⟩)):=by
  rw[hex5,←hrest5]
  exact Zzf (w5:=(((w3.setCell ⟨rb,6,none⟩ (.slice ad3 (ps.length+1) cap3)).alloc (.cells #[.int .u8 40] 5)).alloc (.cells #[.string (Zls 40),.int .i64 0,.string ⟨#[]⟩,.int .i64 ((p:Nat):Int),(.slice none 0 0)] 322))) (wf:=w5) (p:=⟨qo,qn,qz,qa,(.slice qad qnn qcp)⟩) hTW rW mv (by simp;omega) hpre5 hop5 hs5n rfl hrow5 (by have:=hrep5;rw[List.length_append] at this;exact this) (fun g h1 _=>Zqr (by simp at h1;omega) _ _ _ _ _) (by simp at hsz5;omega)
 clear rW px hTW mv hat hown' hgrow hnil hconv k0 k1 k2 m0 m1 m2 s0 s1 s2 d0 d1 d2 d3 d4 d5 d6 fr g1 g3 g4 g5 g6 r4 r1 z3 h6 _hwf cn hb1 hq ht5 px5 n0 n1 n2 n3 n4 u0 u1 u2 u3 u4 r5 mv5 cf hrest5 hpre5 hex5 hop5 hs5n hrow5 hrep5 hsz5
 unfold maxLen at hc2
 generalize (((((w5.setCell ⟨w3.heap.size+1,0,none⟩ (.string qo)).setCell ⟨w3.heap.size+1,1,none⟩ (.int .i64 qn)).setCell ⟨w3.heap.size+1,2,none⟩ (.string qz)).setCell ⟨w3.heap.size+1,3,none⟩ (.int .i64 ((qa:Nat):Int))).setCell ⟨w3.heap.size+1,4,none⟩ (.slice qad qnn qcp))=W at *
 have hiA:(0:Int)≤((ps.length:Nat):Int):=by omega
 have hiB:((ps.length:Nat):Int)<((ps.length+1:Nat):Int):=by omega
 have hiC:((ps.length:Nat):Int)<(ps.length:Int)+1:=by omega
 go_region_held3 (fun w'=>w'.cell? ⟨rb,6,none⟩=some (.slice (some ⟨gb,0,none⟩) ps'.length cap5)∧w'.cell? ⟨w3.heap.size+1,0,none⟩=some (.string qo)∧w'.cell? ⟨w3.heap.size+1,1,none⟩=some (.int .i64 qn)∧w'.cell? ⟨w3.heap.size+1,2,none⟩=some (.string qz)∧w'.cell? ⟨w3.heap.size+1,3,none⟩=some (.int .i64 ((qa:Nat):Int))∧w'.cell? ⟨w3.heap.size+1,4,none⟩=some (.slice qad qnn qcp)) (go_keep) (fail)
 all_goals go_wp2
 go_ret
 first
  | exact FIN.out
  | exact Zfa FIN.out
end
end Go.Proofs.YtliapghpeoaonaaGreatDoor
