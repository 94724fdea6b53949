/-
  Frames, the program: Pump.
-/
import Derived.Test.YtifhgjpglicjbaaGreatDoorReQ
import Derived.Deep.AppendLies
set_option maxHeartbeats 4000000
set_option maxRecDepth 8000
namespace Go.Proofs.YtifhgjpglicjbaaGreatDoor
open Go.Proofs.Tryz
open Go.RowKit Go.Lib Go.MuLone
attribute [local go_sem ↓] Go.wp_at_zero Go.wp_at_succ
def pumpM (fns:List Fn):Nat→List PV→PV→Option (PV×List PV×Nat)
 | 0,q,m=>some (m,q,0)
 | _+1,[],m=>some (m,[],0)
 | k+1,v::q,m=>match reckP fns updB.data.toList [v,m] with
  | none=>none
  | some m'=>(pumpM fns k q m').map fun x=>(x.1,x.2.1,x.2.2+1)
structure PM2 (w:World)(ab:Nat)(fns:List Fn)(a:PA)(most n:Nat)(m':PV)(q':List PV)(wr:World)(j:Nat)(c1:AC)(a1:PA):Prop where
 app:AppAt wr ab fns 1 c1 a1
 bel:Below ab w wr
 eq:∃r,pumpM fns (most-j) a1.queue a1.model=some (m',q',r)∧j+r=n
 rest:a1={ a with model:=a1.model,queue:=a1.queue,handled:=a.handled || decide (0<j) }
def puP (w:World)(ab:Nat)(fns:List Fn)(a:PA)(n:Nat)(m':PV)(q':List PV)(e:Ending)(w':World):Prop :=
 ∃c',e=.returned (.int .i64 ((n:Nat):Int))∧Below ab w w'∧AppAt w' ab fns 0 c' { a with model:=m',queue:=q',handled:=a.handled || decide (0<n) }
theorem PM2.next {w:World}{ab:Nat}{fns:List Fn}{a:PA}{most n:Nat}{m':PV}{q':List PV}{wr:World}{j:Nat}{c1:AC}{a1:PA}(h:PM2 w ab fns a most n m' q' wr j c1 a1)(hj:j<most){v:PV}{q:List PV}(hq:a1.queue=v::q):∃m1,reckP fns updB.data.toList [v,a1.model]=some m1∧∀wr' c2,AppAt wr' ab fns 1 c2 { a1 with queue:=q,handled:=true,model:=m1 }→Below ab w wr'→PM2 w ab fns a most n m' q' wr' (j+1) c2 { a1 with queue:=q,handled:=true,model:=m1 }:=by
 obtain⟨r,e1,e2⟩:=h.eq
 rw[hq,show most-j=(most-(j+1))+1 by omega,pumpM] at e1
 cases e3:reckP fns updB.data.toList [v,a1.model] with
 | none=>rw[e3] at e1;cases e1
 | some m1 =>
  rw[e3] at e1
  simp only at e1
  cases e4:pumpM fns (most-(j+1)) q m1 with
  | none=>rw[e4] at e1;cases e1
  | some x =>
   obtain⟨x1,x2,x3⟩:=x
   rw[e4] at e1
   simp only[Option.map_some,Option.some.injEq,Prod.mk.injEq] at e1
   obtain⟨rfl,rfl,rfl⟩:=e1
   refine⟨m1,rfl,fun wr' c2 hA hB=>⟨hA,hB,⟨x3,e4,by omega⟩,?_⟩⟩
   have:=h.rest
   rw[this]
   simp
theorem PM2.done {w:World}{ab:Nat}{fns:List Fn}{a:PA}{most n:Nat}{m':PV}{q':List PV}{wr:World}{j:Nat}{c1:AC}{a1:PA}(h:PM2 w ab fns a most n m' q' wr j c1 a1)(hj:¬ j<most∨a1.queue=[]):n=j∧a1={ a with model:=m',queue:=q',handled:=a.handled || decide (0<j) }:=by
 obtain⟨r,e1,e2⟩:=h.eq
 have e3:pumpM fns (most-j) a1.queue a1.model=some (a1.model,a1.queue,0):=by
  by_cases h0:most-j=0
  ·rw[h0,pumpM]
  ·obtain⟨k,hk⟩:∃k,most-j=k+1:=⟨most-j-1,by omega⟩
   rcases hj with hj | hj
   ·omega
   ·rw[hk,hj,pumpM]
 rw[e3] at e1
 simp only[Option.some.injEq,Prod.mk.injEq] at e1
 obtain⟨rfl,rfl,rfl⟩:=e1
 exact⟨by omega,h.rest⟩
theorem Pump_ok {fns:List Fn}(hP:ProgOk fns)(hU:UniqF fns){w:World}{ab:Nat}{c:AC}{a:PA}(h:AppAt w ab fns 0 c a)(most n:Nat)(hmost:most≤1000000000)(m':PV)(q':List PV)(e1:pumpM fns most a.queue a.model=some (m',q',n)):
  Calls prog 20 #[.pointer (some ⟨ab,0,none⟩),.int .i64 ((most:Nat):Int)] w (puP w ab fns a n m' q'):=by
 have h1:=h.lock 1
 have b1:Below ab w (w.setCell ⟨ab,0,none⟩ (.int .i32 1)):=(h.set 0 _).2.2
 have c0:w.cell? ⟨ab,0,none⟩=some (.int .i32 0):=h.cell 0
 have f0:=h.frozen 0
 obtain⟨W1,hW1⟩:∃W1,W1=w.setCell ⟨ab,0,none⟩ (.int .i32 1):=⟨_,rfl⟩
 rw[←hW1] at h1 b1
 have CLock:=(lock_free muLib ⟨ab,0,none⟩ _ c0 f0).mono (fun e w' (hp:_∧_)=>(⟨hp.1,hp.2.trans hW1.symm⟩:e=.returned (.tuple #[])∧w'=W1))
 have ST:Hid (PM2 w ab fns a most n m' q' W1 0 c a):=⟨h1,b1,⟨n,by rw[Nat.sub_zero];exact e1,by omega⟩,by simp⟩
 have hmi:((most:Nat):Int)≤1000000000:=by omega
 clear h h1 b1 hW1 c0 f0 e1
 go_enter_defers func20,ntmps20
 go_wp2_with (go_at_call 32;refine CLock.mono ?_;clear CLock;rintro e w1 ⟨rfl,rfl⟩)
 have UNL:Hid (∀wr j c1 a1,PM2 w ab fns a most n m' q' wr j c1 a1→(¬ j<most∨a1.queue=[])→wr.cell? ⟨ab,0,none⟩=some (.int .i32 1)∧wr.frozen? ⟨ab,0,none⟩=false∧n=j∧puP w ab fns a n m' q' (.returned (.int .i64 ((n:Nat):Int))) (wr.setCell ⟨ab,0,none⟩ (.int .i32 0))):=fun wr j c1 a1 hp hj=>by
  obtain⟨d1,d2⟩:=hp.done hj
  have hA:=hp.app
  refine⟨hA.cell 0,hA.frozen 0,d1,c1,rfl,hp.bel.trans (hA.set 0 _).2.2,?_⟩
  have:=hA.lock 0
  rw[d2,←d1] at this
  exact this
 have STEP:Hid (∀wr j c1 a1 v q,PM2 w ab fns a most n m' q' wr j c1 a1→j<most→a1.queue=v::q→∃(g cap:Nat) (xs:List Value) (tx:TypeId) (yx:Value),c1.qv=.slice (some ⟨g,0,none⟩) (xs.length+1) cap∧xs.length+1≤cap∧cap≤9223372036854775807∧xs.length≤1000∧wr.cell? ⟨g,0,none⟩=some (.iface tx yx) ∧
   Calls prog 38 #[.slice (some ⟨g,0,none⟩) (xs.length+1) cap,.int .i64 0,.int .i64 1] wr (fun e w'=>∃(ad:Option Addr) (n2 c2:Nat),e=.returned (.slice ad n2 c2)∧w'.frozen? ⟨ab,4,none⟩=false∧(∃u,w'.cell? ⟨ab,4,none⟩=some u)∧Calls prog 39 #[.pointer (some ⟨ab,0,none⟩),.iface tx yx] (w'.setCell ⟨ab,4,none⟩ (.slice ad n2 c2)) fun e w''=>e=.returned (.tuple #[])∧∃c2 a2,PM2 w ab fns a most n m' q' w'' (j+1) c2 a2)):=fun wr j c1 a1 v q hp hj hq=>by
  have hA:=hp.app
  have hlt:=hA.lt
  obtain⟨m1,e1,hnx⟩:=hp.next hj hq
  obtain⟨x,xs,own,hxl,hx,h1c,hpop⟩:=hA.pop hq
  have hq12:=hA.st.hq
  rw[hq] at hq12
  simp at hq12
  have hfv:Fine v:=hA.st.fq v (by rw[hq];simp)
  obtain⟨tx,yx,rfl⟩:=hx.iface
  have CD:=delete_ok (ab+1) c1.qv (.iface tx yx) xs wr own h1c (by omega) (by omega)
  rcases (RowAt.of_owns own).2 with ⟨_,hz⟩ | ⟨g,cap,cur,hqv,hg,hh,hc,hm,hsz,htk⟩
  ·omega
  ·unfold maxLen at hm
   refine⟨g,cap,xs,tx,yx,hqv,hc,by omega,by omega,?_,?_⟩
   ·unfold World.cell?
    rw[hh]
    show cur[0]?=_
    have:=congrArg (fun l:List Value=>l[0]?) htk
    simp only[List.getElem?_take,List.getElem?_cons_zero] at this
    rw[if_pos (by omega),Array.getElem?_toList] at this
    exact this
   ·rw[hqv] at CD
    refine CD.mono fun e w' hd=>?_
    obtain⟨v',he,hown,hgr,hob⟩:=hd
    rw[←hqv] at hgr hob
    obtain⟨p1,p2,p3⟩:=hpop w' v' hown hgr hob
    obtain⟨ad,c2,rfl⟩:=owns_slice hown
    have hab:w'.heap[ab]?=some (.cells (appCells 1 c1 a1) 92):=(hgr.block ab hlt fun e=>by have:=(own.lt ab e.symm).1;omega).trans hA.blk
    refine⟨ad,_,c2,he,by unfold World.frozen?;rw[hab];rfl,⟨_,by unfold World.cell?;rw[hab];rfl⟩,?_⟩
    refine (handle_ok hP hU p1 v _ p3 hfv m1 e1).mono fun e w'' hh=>?_
    obtain⟨x',he2,hb2,hA2⟩:=hh
    exact⟨he2,_,_,hnx w'' _ hA2 ((hp.bel.trans p2).trans hb2)⟩
 have C4:Hid (∀wr j c1 a1,PM2 w ab fns a most n m' q' wr j c1 a1→wr.cell? ⟨ab,4,none⟩=some c1.qv∧∃ad cap,c1.qv=.slice ad a1.queue.length cap):=fun wr j c1 a1 hp=>by
  obtain⟨cs,own,_⟩:=hp.app.st.queue
  exact⟨hp.app.cell 4,owns_slice own⟩
 clear hP hU
 go_loopg [5] most (fun gh iv wr=>∃(j:Nat) (c1:AC) (a1:PA),gh=most-j∧iv=.int .i64 ((j:Nat):Int)∧j≤most∧Aside (PM2 w ab fns a most n m' q' wr j c1 a1))
 case atStart=>exact⟨0,c,a,by omega,rfl,Nat.zero_le _,(show PM2 w ab fns a most n m' q' _ 0 c a from ST.out)⟩
 case round =>
  obtain⟨j,c1,a1,rfl,rfl,hj,hA⟩:=hrel
  obtain⟨c4,ad0,cap0,hqv⟩:=C4.out _ _ _ _ hA.out
  by_cases hjl:j<most
  ·have hji:(j:Int)<((most:Nat):Int):=by omega
   cases hq:a1.queue with
   | nil =>
    obtain⟨d0,g0,d1,d2⟩:=UNL.out _ _ _ _ hA.out (Or.inr hq)
    rw[hq] at hqv
    rw[hqv] at c4
    have FI:Hid _:=d2
    have D1:Hid (n=j):=d1
    clear hA UNL STEP C4 ST d1 d2 hq hqv
    go_wp2_with fail
    refine leaves_cons (f:=33) (args:=#[.pointer (some ⟨ab,0,none⟩)]) (by simp) (by simp[go_sem]) ?_
    refine (unlock_deferred muLib ⟨ab,0,none⟩ .returning _ d0 g0).mono ?_
    rintro e u' w3 ⟨rfl,rfl,rfl⟩
    obtain⟨c9,_,m2,m3⟩:=FI.out
    exact⟨_,results_tmp rfl _ _ _,c9,by rw[D1.out];rfl,m2,m3⟩
   | cons v q =>
    obtain⟨g,cap,xs,tx,yx,hq2,hc1,hc2,hc3,cg,CD⟩:=STEP.out _ _ _ _ _ _ hA.out hjl hq
    rw[hq2] at c4
    have hxi:((xs.length:Nat):Int)≤1000:=by omega
    clear hA UNL STEP C4 ST hq hqv hq2
    go_wp2_with (first
     |(go_at_call 38;refine CD.mono ?_;rintro e w5 ⟨ad5,n5,cap5,rfl,f5,⟨u5,k5⟩,CH⟩)
     |(go_at_call 39;refine CH.mono ?_;rintro e w6 ⟨rfl,c6,a6,hp6⟩))
    go_roundg (most-(j+1))
    case measure=>omega
    case rel=>exact⟨j+1,c6,a6,rfl,by go_num,by omega,(show PM2 w ab fns a most n m' q' _ (j+1) c6 a6 from hp6)⟩
  ·have hji:¬ (j:Int)<((most:Nat):Int):=by omega
   obtain⟨d0,g0,d1,d2⟩:=UNL.out _ _ _ _ hA.out (Or.inl hjl)
   rw[hqv] at c4
   have FI:Hid _:=d2
   have D1:Hid (n=j):=d1
   clear hA UNL STEP C4 ST d1 d2 hqv
   go_wp2_with fail
   refine leaves_cons (f:=33) (args:=#[.pointer (some ⟨ab,0,none⟩)]) (by simp) (by simp[go_sem]) ?_
   refine (unlock_deferred muLib ⟨ab,0,none⟩ .returning _ d0 g0).mono ?_
   rintro e u' w3 ⟨rfl,rfl,rfl⟩
   obtain⟨c9,_,m2,m3⟩:=FI.out
   exact⟨_,results_tmp rfl _ _ _,c9,by rw[D1.out];rfl,m2,m3⟩
end Go.Proofs.YtifhgjpglicjbaaGreatDoor
namespace Go.Proofs.YtifhgjpglicjbaaGreatDoor
open Go.Proofs.Tryz
open Go.RowKit Go.Lib
attribute [local go_sem ↓] Go.wp_at_zero Go.wp_at_succ
attribute [local go_sem] nt_Node_Text_Text nt_Node_Text_Element nt_Node_Text_Keyed nt_Node_Text_Tagged nt_Node_Text_Lazy nt_Node_Element_Text nt_Node_Element_Element nt_Node_Element_Keyed nt_Node_Element_Tagged nt_Node_Element_Lazy nt_Node_Keyed_Text nt_Node_Keyed_Element nt_Node_Keyed_Keyed nt_Node_Keyed_Tagged nt_Node_Keyed_Lazy nt_Node_Tagged_Text nt_Node_Tagged_Element nt_Node_Tagged_Keyed nt_Node_Tagged_Tagged nt_Node_Tagged_Lazy nt_Node_Lazy_Text nt_Node_Lazy_Element nt_Node_Lazy_Keyed nt_Node_Lazy_Tagged nt_Node_Lazy_Lazy nt_Node_nil_Text nt_Node_nil_Element nt_Node_nil_Keyed nt_Node_nil_Tagged nt_Node_nil_Lazy nt_Shown_Text_Text nt_Shown_Text_Element nt_Shown_Text_Keyed nt_Shown_Element_Text nt_Shown_Element_Element nt_Shown_Element_Keyed nt_Shown_Keyed_Text nt_Shown_Keyed_Element nt_Shown_Keyed_Keyed nt_Shown_nil_Text nt_Shown_nil_Element nt_Shown_nil_Keyed nt_Shown_of_Text nt_Shown_of_Element nt_Shown_of_Keyed nt_Shown_of_nil
def hdsA:An→List Hd
 | .el _ _ _ _ hs _=>hs
 | .ky _ _ _ _ hs _ _=>hs
 | _=>[]
theorem handlersOf_any {w:World}{D:Nat→Prop}{n:An}(h:AnD w D n)(hsn:shownA n=true):
  Calls prog 93 #[n.val] w fun e w'=>∃ad cap hc,e=.returned (.slice ad (hdsA n).length cap)∧SegAt w TT 160 3 (.slice ad (hdsA n).length cap) (hdsA n).length hc∧HdC w D (hdsA n) hc∧w'=w:=by
 cases n with
 | txt b m s =>
  simp only[An.val]
  go_enter func93,ntmps93
  go_wp2_with fail
  go_ret
  exact⟨none,0,[],rfl,⟨rfl,Or.inl ⟨⟨none,0,rfl⟩,rfl⟩⟩,rfl,rfl⟩
 | el b m t ats hs ks =>
  rw[AnD] at h
  obtain⟨⟨av,hv,nv,hc,h1,h2⟩,h3⟩:=h
  have c5:w.cell? ⟨b,5,none⟩=some hv:=by unfold World.cell?;rw[h1];rfl
  have r1:=h2.rh
  have r2:=h2.hd
  obtain⟨ad,cap,rfl⟩:=r1.slice
  have FI:Hid (SegAt w TT 160 3 (.slice ad hs.length cap) hs.length hc∧HdC w D hs hc):=⟨r1,r2⟩
  simp only[An.val,hdsA]
  clear h1 h2 h3 r1 r2
  go_enter func93,ntmps93
  go_wp2_with fail
  go_ret
  exact⟨ad,cap,hc,rfl,FI.out.1,FI.out.2,rfl⟩
 | ky b m t ats hs keys ks =>
  rw[AnD] at h
  obtain⟨⟨av,hv,nv,hc,kv,h1,h2,h4⟩,h3⟩:=h
  have c5:w.cell? ⟨b,5,none⟩=some hv:=by unfold World.cell?;rw[h1];rfl
  have r1:=h2.rh
  have r2:=h2.hd
  obtain⟨ad,cap,rfl⟩:=r1.slice
  have FI:Hid (SegAt w TT 160 3 (.slice ad hs.length cap) hs.length hc∧HdC w D hs hc):=⟨r1,r2⟩
  simp only[An.val,hdsA]
  clear h1 h2 h3 h4 r1 r2
  go_enter func93,ntmps93
  go_wp2_with fail
  go_ret
  exact⟨ad,cap,hc,rfl,FI.out.1,FI.out.2,rfl⟩
 | tg b f n=>cases hsn
 | lz b f args n=>cases hsn
def tagsA:An→List (List UInt8)
 | .tg _ f n=>tagsA n++[f]
 | .lz _ _ _ n=>tagsA n
 | _=>[]
def tgP (w:World)(l:List (List UInt8))(e:Ending)(w':World):Prop :=
 ∃v,e=.returned v∧w'.ownsRow w.heap.size 9 1 v l.length (l.map fun b=>Value.string (bsA b))∧Below w.heap.size w w'
theorem tagsA_len:∀n:An,(tagsA n).length≤sizeA n
 | .txt _ _ _=>by simp[tagsA]
 | .el _ _ _ _ _ _=>by simp[tagsA]
 | .ky _ _ _ _ _ _ _=>by simp[tagsA]
 | .tg _ f n=>by have:=tagsA_len n;simp[tagsA,sizeA];omega
 | .lz _ _ _ n=>by have:=tagsA_len n;simp[tagsA,sizeA];omega
theorem tags_no (w:World):∀(n:An),shownA n=true→Calls prog 65 #[n.val] w (tgP w (tagsA n))
 | .txt b m s,_=>by
  simp only[An.val,tagsA]
  go_enter func65,ntmps65
  go_wp2_with fail
  go_ret
  exact⟨_,rfl,World.ownsRow_nil _ _ _ _,Below.refl _ _⟩
 | .el b m t ats hs ks,_=>by
  simp only[An.val,tagsA]
  go_enter func65,ntmps65
  go_wp2_with fail
  go_ret
  exact⟨_,rfl,World.ownsRow_nil _ _ _ _,Below.refl _ _⟩
 | .ky b m t ats hs keys ks,_=>by
  simp only[An.val,tagsA]
  go_enter func65,ntmps65
  go_wp2_with fail
  go_ret
  exact⟨_,rfl,World.ownsRow_nil _ _ _ _,Below.refl _ _⟩
theorem tags_lz {w:World}{b:Nat}{f:List UInt8}{args:List PV}{n:An}(h:AnAt w (.lz b f args n))(CT:Calls prog 65 #[n.val] w (tgP w (tagsA n))):Calls prog 65 #[(An.lz b f args n).val] w (tgP w (tagsA (.lz b f args n))):=by
 rw[AnAt,AnD] at h
 obtain⟨⟨sl,cs,h1,h2,h3⟩,h4⟩:=h
 have c2:w.cell? ⟨b,2,none⟩=some n.val:=by unfold World.cell?;rw[h1];rfl
 obtain⟨tn,bn,hn⟩:=n.val_iface
 rw[hn] at CT c2
 simp only[An.val,tagsA]
 clear h1 h2 h3 h4 hn
 go_enter func65,ntmps65
 go_wp2_with (go_at_call 65;refine CT.mono ?_;rintro e w1 ⟨v,rfl,hown,hb⟩)
 go_ret
 exact⟨_,rfl,hown,hb⟩
theorem tags_tg {w:World}{b:Nat}{f:List UInt8}{n:An}(h:AnAt w (.tg b f n))(hl:sizeA n≤1000)(CT0:∀X,Below w.heap.size w X→Calls prog 65 #[n.val] X (tgP X (tagsA n))):Calls prog 65 #[(An.tg b f n).val] w (tgP w (tagsA (.tg b f n))):=by
 rw[AnAt,AnD] at h
 obtain⟨h1,h4⟩:=h
 have c0:w.cell? ⟨b,0,none⟩=some (.string (bsA f)):=by unfold World.cell?;rw[h1];rfl
 have c1:w.cell? ⟨b,1,none⟩=some n.val:=by unfold World.cell?;rw[h1];rfl
 have hlen:=tagsA_len n
 obtain⟨tn,bn,hn⟩:=n.val_iface
 have CT:Hid (∀X,Below w.heap.size w X→Calls prog 65 #[n.val] X fun e w'=>∃v,e=.returned v∧w'.ownsRow w.heap.size 9 1 v (tagsA n).length ((tagsA n).map fun b=>Value.string (bsA b))∧Below X.heap.size X w'∧Below w.heap.size w w'):=fun X hX=>(CT0 X hX).mono fun e w' ⟨v,h1,h2,h3⟩=>⟨v,h1,owns_mono h2 hX.size,h3,hX.trans (h3.mono hX.size)⟩
 have FIN:Hid (∀v w',w'.ownsRow w.heap.size 9 1 v ((tagsA n).length+1) (((tagsA n).map fun b=>Value.string (bsA b))++[.string (bsA f)])→Below w.heap.size w w'→tgP w (tagsA (.tg b f n)) (.returned v) w'):=fun v w' ho hb=>⟨v,rfl,by simpa[tagsA] using ho,hb⟩
 simp only[An.val]
 rw[hn] at CT c1
 generalize ((tagsA n).map fun b=>Value.string (bsA b))=xs at *
 generalize (tagsA n).length=k at *
 generalize tagsA (.tg b f n)=L at *
 have hk:k≤1000:=by omega
 clear hlen hl hn h4 h1 CT0
 go_enter func65,ntmps65
 go_wp2_with fail
 go_region_held3 (fun w'=>w'.cell? ⟨b,0,none⟩=some (.string (bsA f))∧w'.cell? ⟨b,1,none⟩=some (.iface tn (.pointer (some ⟨bn,0,none⟩)))) (first | go_keep | exact⟨Below.cellv hb6 c0,Below.cellv hb6 c1⟩ | exact⟨Below.cellv hbw c0,Below.cellv hbw c1⟩)
  ((first
   |(go_at_call 65;refine (CT.out _ ?_).mono ?_;(first | exact Below.refl _ _ | exact (Below.refl _ _).drew | exact ((Below.refl _ _).drew).alloc (by simp) _ | exact ((Below.refl _ _).alloc (by simp) _).drew);rintro e w1 ⟨v1,rfl,hown,hb1,hbw⟩)
   |(obtain⟨i0,hi,hz0,hz1,hz2⟩:=info_parts Tryz.infoString;refine step_append_lies _ ?_ (.tmp 13) (.tmp 18) 26 ?_ w.heap.size 9 i0 (.string ⟨#[]⟩) 1 16 underlying26 hi hz0 hz1 hz2 rfl (by decide) v1 k xs ?_ ?_ ⟨w1.heap.size,0,none⟩ 1 1 [.string (bsA f)] ?_ rfl ?_ ?_ (by decide) ?_ ?_ ?_ _ rfl ?_;(rfl);(rfl);(rfl);(exact hown.alloc _);(rfl);(exact cell_one_new _ _ _);(intro u hu;simp at hu;subst hu;rfl);(unfold maxLen;omega);(omega);(simp;have:=hbw.size;omega);clear hi hz0 hz1 hz2;intro g cap w6 hown' hgrow hat hlt;have hb6:Below w.heap.size w w6:=(hbw.alloc hbw.size _).grown hgrow (by simp;have:=hbw.size;omega) fun k hk=>(hown.lt k hk).1)
   |(obtain⟨i0,hi,hz0,hz1,hz2⟩:=info_parts Tryz.infoString;refine step_append_lies _ ?_ (.tmp 13) (.tmp 18) 26 ?_ w.heap.size 9 i0 (.string ⟨#[]⟩) 1 16 underlying26 hi hz0 hz1 hz2 rfl (by decide) v1 k xs ?_ ?_ ⟨w.heap.size,0,none⟩ 1 1 [.string (bsA f)] ?_ rfl ?_ ?_ (by decide) ?_ ?_ ?_ _ rfl ?_;(rfl);(rfl);(rfl);(exact hown);(rfl);(exact World.news_of_block ((hb1.block _ (by simp)).trans (heap_alloc_new _ _)));(intro u hu;simp at hu;subst hu;rfl);(unfold maxLen;omega);(omega);(have:=hbw.size;omega);clear hi hz0 hz1 hz2;intro g cap w6 hown' hgrow hat hlt;have hb6:Below w.heap.size w w6:=hbw.grown hgrow hbw.size fun k hk=>(hown.lt k hk).1)))
 all_goals go_wp2
 all_goals go_ret
 all_goals exact FIN.out _ w6 hown' hb6
theorem tags_any:∀(n:An) (w:World),AnAt w n→sizeA n≤1000→Calls prog 65 #[n.val] w (tgP w (tagsA n))
 | .txt b m s,w,_,_=>tags_no w _ rfl
 | .el b m t ats hs ks,w,_,_=>tags_no w _ rfl
 | .ky b m t ats hs keys ks,w,_,_=>tags_no w _ rfl
 | .tg b f n,w,h,hz=>by
  rw[sizeA] at hz
  have h2:=h
  rw[AnAt,AnD] at h2
  exact tags_tg h (by omega) fun X hX=>tags_any n X (h2.2.below hX) (by omega)
 | .lz b f args n,w,h,hz=>by
  rw[sizeA] at hz
  have h2:=h
  rw[AnAt,AnD] at h2
  exact tags_lz h (tags_any n w h2.2 (by omega))
end Go.Proofs.YtifhgjpglicjbaaGreatDoor
namespace Go.Proofs.YtifhgjpglicjbaaGreatDoor
open Go.Proofs.Tryz
open Go.RowKit Go.Shelf Go.Lib
attribute [local go_sem ↓] Go.wp_at_zero Go.wp_at_succ
def renS:Ren:=⟨fun k=>if k=4 then 92 else 0,fun k=>if k=0 then 0 else if k=3 then 3 else if k=4 then 4 else if k=9 then 9 else if k=20 then 20 else if k=22 then 26 else if k=23 then 9 else if k=25 then 9 else 0,fun _=>0⟩
theorem laysSG:Lays8.n4 prog renS:=by
 constructor
 all_goals first | kernel_rfl | (intro w;kernel_rfl) | exact⟨ "slices.Grow[[]string,string]", by decide +kernel,by kernel_rfl⟩
theorem sgrow_any (n:Nat)(w:World)(hn:n≤1000000):
  Calls prog 92 #[.slice none 0 0,.int .i64 ((n:Nat):Int)] w fun e w'=>∃v',e=.returned v'∧w'.ownsRow w.heap.size 9 1 v' 0 []∧Below w.heap.size w w':=by
 obtain⟨i0,hi,hz0,hz1,hz2⟩:=info_parts Tryz.infoString
 by_cases h0:n=0
 ·have c:Calls prog 92 #[.slice none 0 0,.int .i64 ((n:Nat):Int)] w _:=Any8.slices_Grow_room laysSG none 0 0 n w (Nat.le_refl _) (by omega) (by omega) (by omega)
  refine c.mono fun e w' ⟨h1,h2⟩=>⟨_,h1,?_,by rw[h2];exact Below.refl _ _⟩
  exact World.ownsRow_nil _ _ _ _
 ·have c:Calls prog 92 #[.slice none 0 0,.int .i64 ((n:Nat):Int)] w _:=Any8.slices_Grow_grow laysSG i0 (.string ⟨#[]⟩) hi hz0 (by rw[hz1];decide) none 0 0 n [] w (Nat.le_refl _) (by omega) (by rw[hz2];omega) (by omega) (by simp) (fun _=>rfl) (fun a h=>by cases h)
  refine c.mono fun e w' ⟨h1,h2⟩=>⟨_,h1,?_,by rw[h2];exact (Below.drew (Below.refl _ w)).alloc (Nat.le_refl _) _⟩
  have hge:=grownCap_ge w (0+n) 0 (renS.t 25)
  have hle:=grownCap_le_maxLen w (0+n) 0 (renS.t 25) (by unfold maxLen;omega)
  refine⟨rfl,Or.inr ⟨w.heap.size,_,_,rfl,Nat.le_refl _,by rw[h2];exact heap_alloc_new w.drew _,Nat.zero_le _,hle,?_,by simp⟩⟩
  have hzc:(Value.string ⟨#[]⟩).cells.size=1:=rfl
  rw[Nat.zero_add] at hge ⊢
  simp[Builtin.zeroCells,hzc]
  omega
theorem sconcat_any (D:Nat→Prop)(n m:Nat)(sl sm:Value)(cs ds:List Value)(w:World)(b:Nat)(hn:n≤10000)(hm:m≤10000)(h1:SegAt w D 9 1 sl n cs)(h2:SegAt w D 9 1 sm m ds)(o1:∀u∈cs,u.oneCell'=true)(o2:∀u∈ds,u.oneCell'=true)(c0:w.cell? ⟨b,0,none⟩=some sl)(c1:w.cell? ⟨b,1,none⟩=some sm):
  Calls prog 67 #[.slice (some ⟨b,0,none⟩) 2 2] w fun e w'=>∃v',e=.returned v'∧w'.ownsRow w.heap.size 9 1 v' (n+m) (cs++ds)∧Below w.heap.size w w':=by
 have CG:Hid (∀X,Calls prog 92 #[.slice none 0 0,.int .i64 ((n:Int)+(m:Int))] X _):=fun X=>sgrow_any (n+m) X (by omega)
 obtain⟨ad,cap,rfl⟩:=h1.slice
 obtain⟨ae,cae,rfl⟩:=h2.slice
 go_enter func67,ntmps67
 go_wp2_with fail
 refine wp_loop_rounds 3 ?_
 rw[rounds_succ]
 go_wp2_with fail
 rw[rounds_succ]
 go_wp2_with fail
 rw[rounds_succ]
 go_wp2_with (go_at_call 92;refine (CG.out _).mono ?_;rintro e w1 ⟨v1,rfl,own1,hb1⟩)
 obtain⟨a1,k1,rfl⟩:=owns_slice own1
 have d0:=Below.cellv hb1 c0
 have d1:=Below.cellv hb1 c1
 have sz1:=hb1.size
 refine wp_loop_rounds 3 ?_
 rw[rounds_succ]
 go_wp2_with (at_builtin;(obtain⟨i0,hi,hz0,hz1,hz2⟩:=info_parts Tryz.infoString;refine wpList_append_seg rfl _ _ 26 rfl w.heap.size 9 i0 (.string ⟨#[]⟩) 1 16 underlying26 hi hz0 hz1 hz2 rfl (by decide) _ _ _ rfl own1 _ n cs rfl (h1.below hb1) o1 (by unfold maxLen;omega) (by omega) sz1 ?_;intro v2 w2 own2 hg2 hob2))
 have hb2:Below w.heap.size w w2:=hb1.grown hg2 sz1 fun k hk=>(own1.lt k hk).1
 obtain⟨a2,k2,rfl⟩:=owns_slice own2
 have e0:=Below.cellv hb2 c0
 have e1:=Below.cellv hb2 c1
 have sz2:=hb2.size
 clear d0 d1
 rw[rounds_succ]
 go_wp2_with (at_builtin;obtain⟨i0,hi,hz0,hz1,hz2⟩:=info_parts Tryz.infoString;refine wpList_append_seg rfl _ _ 26 rfl w.heap.size 9 i0 (.string ⟨#[]⟩) 1 16 underlying26 hi hz0 hz1 hz2 rfl (by decide) _ _ _ rfl own2 _ m ds rfl (h2.below hb2) o2 (by unfold maxLen;omega) (by omega) sz2 ?_;intro v3 w3 own3 hg3 hob3)
 have hb3:Below w.heap.size w w3:=hb2.grown hg3 sz2 fun k hk=>(own2.lt k hk).1
 obtain⟨a3,k3,rfl⟩:=owns_slice own3
 rw[rounds_succ]
 go_wp2_with fail
 go_ret
 exact⟨_,rfl,by simpa using own3,hb3⟩
end Go.Proofs.YtifhgjpglicjbaaGreatDoor
namespace Go.Proofs.YtifhgjpglicjbaaGreatDoor
open Go.Proofs.Tryz
open Go.RowKit Go.Lib
abbrev Tg:=List (List UInt8)
def stepW (x:An×Tg)(i:Nat):Option (An×Tg):=((kidsO (some x.1))[i]?).map fun n=>(bareA n,tagsA n++x.2)
def wayA:(An×Tg)→List Nat→Option (List (An×Tg))
 | _,[]=>some []
 | x,i::r=>match stepW x i with
  | none=>none
  | some y=>(wayA y r).map (y::·)
def topW (n:An):An×Tg:=(bareA n,tagsA n)
def tgV (ts:Tg):List Value:=ts.map fun b=>Value.string (bsA b)
def FndC (w:World):List (An×Tg)→List Value→Prop
 | [],cs=>cs=[]
 | x::r,cs=>∃tv q,cs=x.1.val::tv::q∧SegAt w TT 9 1 tv x.2.length (tgV x.2)∧FndC w r q
theorem FndC.map {w w':World}(hk:TyKeep 9 w w'):∀{l:List (An×Tg)} {cs:List Value},FndC w l cs→FndC w' l cs
 | [],cs,h=>h
 | x::r,cs,h=>by
  obtain⟨tv,q,h1,h2,h3⟩:=h
  exact⟨tv,q,h1,h2.tyKeep hk,FndC.map hk h3⟩
theorem FndC.snoc {w:World}{x:An×Tg}{tv:Value}(ht:SegAt w TT 9 1 tv x.2.length (tgV x.2)):∀{l:List (An×Tg)} {cs:List Value},FndC w l cs→FndC w (l++[x]) (cs++[x.1.val,tv])
 | [],cs,h=>by
  have h:cs=[]:=h
  subst h
  exact⟨tv,[],rfl,ht,rfl⟩
 | y::r,cs,h=>by
  obtain⟨tv',q,h1,h2,h3⟩:=h
  exact⟨tv',q++[x.1.val,tv],by rw[h1];rfl,h2,FndC.snoc ht h3⟩
theorem FndC.one_cell {w:World}:∀{l:List (An×Tg)} {cs:List Value},FndC w l cs→cs.length=l.length*2
 | [],cs,h=>by
  have h:cs=[]:=h
  subst h
  rfl
 | x::r,cs,h=>by
  obtain⟨tv,q,h1,h2,h3⟩:=h
  rw[h1]
  have:=FndC.one_cell h3
  simp
  omega
theorem bare_size:∀n:An,(tagsA n).length+sizeA (bareA n)≤sizeA n
 | .txt _ _ _=>by simp[tagsA,bareA]
 | .el _ _ _ _ _ _=>by simp[tagsA,bareA]
 | .ky _ _ _ _ _ _ _=>by simp[tagsA,bareA]
 | .tg _ f n=>by have:=bare_size n;simp[tagsA,bareA,sizeA];omega
 | .lz _ _ _ n=>by have:=bare_size n;simp[tagsA,bareA,sizeA];omega
theorem sizeL_mem:∀{l:List An} {i:Nat} {n:An},l[i]?=some n→sizeA n≤sizeL l
 | [],i,n,h=>by simp at h
 | m::r,0,n,h=>by simp at h;subst h;rw[sizeL];omega
 | m::r,i+1,n,h=>by simp at h;have:=sizeL_mem h;rw[sizeL];omega
theorem stepW_size {x y:An×Tg}{i:Nat}(h:stepW x i=some y):y.2.length+sizeA y.1+1≤x.2.length+sizeA x.1∧sizeA y.1+1≤sizeA x.1:=by
 unfold stepW at h
 cases e:(kidsO (some x.1))[i]? with
 | none=>rw[e] at h;cases h
 | some n =>
  rw[e] at h
  simp only[Option.map_some,Option.some.injEq] at h
  subst h
  have h1:=sizeL_mem e
  have h2:=sizeA_kids x.1
  have h3:=bare_size n
  simp only[List.length_append]
  omega
theorem AnD.bare {w:World}{D:Nat→Prop}:∀{n:An},AnD w D n→AnD w D (bareA n)
 | .txt _ _ _,h=>h
 | .el _ _ _ _ _ _,h=>h
 | .ky _ _ _ _ _ _ _,h=>h
 | .tg _ f n,h=>by rw[AnD] at h;show AnD w D (bareA n);exact AnD.bare h.2
 | .lz _ _ _ n,h=>by rw[AnD] at h;show AnD w D (bareA n);exact AnD.bare h.2
theorem AnD.kids {w:World}{D:Nat→Prop}{n:An}(h:AnD w D n):AnsD w D (kidsO (some n)):=by
 cases n with
 | txt b m s=>simp only[kidsO];rw[AnsD];trivial
 | el b m t ats hs ks=>rw[AnD] at h;exact h.2
 | ky b m t ats hs keys ks=>rw[AnD] at h;exact h.2
 | tg b f n=>rw[AnD] at h;simp only[kidsO];rw[AnsD,AnsD];exact⟨h.2,trivial⟩
 | lz b f args n=>rw[AnD] at h;simp only[kidsO];rw[AnsD,AnsD];exact⟨h.2,trivial⟩
theorem stepW_node {w:World}{D:Nat→Prop}{x y:An×Tg}{i:Nat}(hx:AnD w D x.1)(h:stepW x i=some y):AnD w D y.1∧shownA y.1=true:=by
 unfold stepW at h
 cases e:(kidsO (some x.1))[i]? with
 | none=>rw[e] at h;cases h
 | some n =>
  rw[e] at h
  simp only[Option.map_some,Option.some.injEq] at h
  subst h
  obtain⟨hi,rfl⟩:=List.getElem?_eq_some_iff.1 e
  exact⟨(hx.kids.at i hi).bare,bareA_shown _⟩
structure WyI (w:World)(D:Nat→Prop)(x0:An×Tg)(path:List Nat)(fb:Nat)(wr:World)(j:Nat)(x:An×Tg)(fs:List (An×Tg))(tv wv:Value):Prop where
 eq:(wayA x0 path).map (x0::·)=(wayA x (path.drop j)).map (fs++·)
 lenfs:fs.length=j+1
 bel:Below w.heap.size w wr
 fbl:w.heap.size≤fb
 blk:wr.heap[fb]?=some (.cells #[x.1.val,tv] 150)
 tags:SegAt wr TT 9 1 tv x.2.length (tgV x.2)
 node:AnD w D x.1
 nodes:∀y∈fs,AnD w D y.1∧shownA y.1=true∧y.2.length≤1000
 own:∃cs,wr.ownsRow w.heap.size 150 2 wv fs.length cs∧FndC wr fs cs
 sep:wv.ownBlock≠some fb
 size:x.2.length+sizeA x.1≤1000∧fs.length+sizeA x.1≤1001
theorem grown_tyKeep {w w':World}{base:Nat}{t0 t:TypeId}{size:Nat}{v:Value}{n:Nat}{xs:List Value}(h:w.ownsRow base t0 size v n xs)(hg:w.grownBy w' v.ownBlock)(hne:t0≠t):TyKeep t w w':=fun g cur e=>by
 rw[hg.block g (block_lt e) fun he=>?_]
 ·exact e
 ·rcases h.2 with ⟨hv,_⟩ | ⟨g',cap,cur',hv,_,hh,_⟩
  ·rw[hv] at he
   cases he
  ·rw[hv] at he
   have:g=g':=by simpa[Value.ownBlock] using he
   subst this
   rw[hh] at e
   cases e
   exact hne rfl
def wyW (X:World)(fb:Nat)(a b:Value):World:=(X.setCell ⟨fb,0,none⟩ a).setCell ⟨fb,1,none⟩ b
theorem WyI.put {w:World}{D:Nat→Prop}{x0:An×Tg}{path:List Nat}{fb:Nat}{wr:World}{j:Nat}{x:An×Tg}{fs:List (An×Tg)}{tv wv:Value}(h:WyI w D x0 path fb wr j x fs tv wv){X:World}(hX:Below wr.heap.size wr X)(a b:Value):
  (wyW X fb a b).heap[fb]?=some (.cells #[a,b] 150)∧(∃cs,(wyW X fb a b).ownsRow w.heap.size 150 2 wv fs.length cs∧FndC (wyW X fb a b) fs cs)∧Below w.heap.size w (wyW X fb a b)∧TyKeep 9 X (wyW X fb a b)∧(X.cell? ⟨fb,0,none⟩=some x.1.val∧X.cell? ⟨fb,1,none⟩=some tv∧(∀k,X.frozen? ⟨fb,k,none⟩=false)):=by
 have hlt:=block_lt h.blk
 have q0:X.heap[fb]?=some (.cells #[x.1.val,tv] 150):=(hX.block fb hlt).trans h.blk
 have q1:=set_block (j:=0) q0 a
 have q2:(wyW X fb a b).heap[fb]?=_:=set_block (j:=1) q1 b
 have hb:Below w.heap.size w X:=h.bel.trans (hX.mono h.bel.size)
 have hb2:Below w.heap.size w (wyW X fb a b):=(hb.setCell (p:=⟨fb,0,none⟩) h.fbl _).setCell (p:=⟨fb,1,none⟩) h.fbl _
 have hk:TyKeep 9 X (wyW X fb a b):=(TyKeep.setCell q0 (by decide) a).trans (TyKeep.setCell q1 (by decide) b)
 have ht:Touch (·=fb) X (wyW X fb a b):=((Touch.refl (·=fb) X).setCell (p:=⟨fb,0,none⟩) (Or.inl rfl) a).setCell (p:=⟨fb,1,none⟩) (Or.inl rfl) b
 refine⟨q2,?_,hb2,hk,by unfold World.cell?;rw[q0];rfl,by unfold World.cell?;rw[q0];rfl,fun k=>by unfold World.frozen?;rw[q0];rfl⟩
 obtain⟨cs,h1,h2⟩:=h.own
 have h3:X.ownsRow w.heap.size 150 2 wv fs.length cs:=owns_keep h1 fun k hk=>hX.block k (h1.lt k hk).2
 refine⟨cs,owns_keep h3 fun k hk=>ht.block k (h3.lt k hk).2 ?_,(h2.map (.of_below hX)).map hk⟩
 show ¬ k=fb
 intro e
 exact h.sep (by rw[hk,e])
theorem WyI.next {w:World}{D:Nat→Prop}{x0:An×Tg}{path:List Nat}{fb:Nat}{wr:World}{j:Nat}{x:An×Tg}{fs:List (An×Tg)}{tv wv:Value}(h:WyI w D x0 path fb wr j x fs tv wv){X:World}(hX:Below wr.heap.size wr X){y:An×Tg}(hj:j<path.length)(hy:stepW x path[j]=some y){tv':Value}(ht:SegAt X TT 9 1 tv' y.2.length (tgV y.2)){cs:List Value}(hcs:(wyW X fb y.1.val tv').ownsRow w.heap.size 150 2 wv fs.length cs∧FndC (wyW X fb y.1.val tv') fs cs)
  {v':Value} {w6:World} (hown:w6.ownsRow w.heap.size 150 2 v' (fs.length+1) (cs++[y.1.val,tv'])) (hg:((wyW X fb y.1.val tv').alloc (.cells #[y.1.val,tv'] 150)).grownBy w6 wv.ownBlock) (hob:v'.ownBlock=wv.ownBlock∨v'.ownBlock=some ((wyW X fb y.1.val tv').alloc (.cells #[y.1.val,tv'] 150)).heap.size) :
  WyI w D x0 path fb w6 (j+1) y (fs++[y]) tv' v':=by
 obtain⟨p1,_,p3,p4,_⟩:=h.put hX y.1.val tv'
 generalize wyW X fb y.1.val tv'=W at *
 have hlt:=block_lt p1
 have ba:=below1 W (.cells #[y.1.val,tv'] 150)
 have oa:(W.alloc (.cells #[y.1.val,tv'] 150)).ownsRow w.heap.size 150 2 wv fs.length cs:=hcs.1.alloc _
 have bsz:=p3.size
 have hk:TyKeep 9 W w6:=(TyKeep.of_below ba).trans (grown_tyKeep oa hg (by decide))
 have hs:=stepW_size hy
 obtain⟨n1,n2⟩:=stepW_node h.node hy
 have hz:=h.size
 refine⟨?_,by rw[List.length_append,h.lenfs];rfl,(p3.trans (ba.mono bsz)).grown hg (by simp;omega) fun k hk=>(oa.lt k hk).1,h.fbl,?_,(ht.tyKeep p4).tyKeep hk,n1,?_,?_,?_,by omega,?_⟩
 ·rw[h.eq,List.drop_eq_getElem_cons hj,wayA,hy]
  simp only
  cases wayA y (path.drop (j+1))<;>simp
 ·rw[hg.block fb (by simp;omega) fun e=>h.sep e.symm,ba.block fb hlt]
  exact p1
 ·intro z hz
  rw[List.mem_append,List.mem_singleton] at hz
  rcases hz with hz | rfl
  ·exact h.nodes z hz
  ·exact⟨n1,n2,by omega⟩
 ·exact⟨_,by rw[List.length_append];exact hown,FndC.snoc ((ht.tyKeep p4).tyKeep hk) (hcs.2.map hk)⟩
 ·rcases hob with e | e
  ·rw[e];exact h.sep
  ·rw[e]
   intro e2
   simp at e2
   omega
 ·rw[List.length_append]
  simp
  omega
end Go.Proofs.YtifhgjpglicjbaaGreatDoor
