/-
  The reference: form: the state of its loop.
-/
import Derived.Test.YtliapghpeoaonaaGreatDoorRefG0
import Derived.Deep.LoopGhost
set_option maxHeartbeats 8000000
set_option maxRecDepth 8000
namespace Go.Proofs.YtliapghpeoaonaaGreatDoor
open Go.Proofs.Tryz
open Go.RowKit
abbrev Zg9 (js:List Nat):List Value:=js.map fun j:Nat=>Value.int .i64 (j:Int)
structure FS (base rb tb cap:Nat)(l:List (Tok×ByteArray))(fv pv:Value)(ps:List Zaw)(w:World)(RB PB:Nat)(op s:ByteArray)(at_:Nat)(wr:World)(kad:Option Addr)(kcp:Nat)(js:List Nat)(kz d' e' a':Nat)(pad:Option Addr)(pcp:Nat)(ps':List Zaw):Prop where
 ht:Zaa (fun g=>g=rb∨some g=pv.ownBlock) w wr
 pp:Px wr PB ⟨op,0,s,at_,.slice kad js.length kcp⟩
 pr:Px wr RB Zaw.zero
 ko:wr.ownsRow w.heap.size 3 1 (.slice kad js.length kcp) js.length (Zg9 js)
 kn:∀g,some g=(Value.slice kad js.length kcp).ownBlock→some g≠(Value.slice pad ps'.length pcp).ownBlock∧g≠PB∧g≠RB
 rp:Rp wr base rb tb cap l fv (.slice pad ps'.length pcp) kz d' e' a' ps'
 le:ps.length≤ps'.length
 mv:Zea w pv (.slice pad ps'.length pcp)
 nP:some PB≠(Value.slice pad ps'.length pcp).ownBlock
 nR:some RB≠(Value.slice pad ps'.length pcp).ownBlock
 hP:w.heap.size≤PB
 hR:w.heap.size≤RB
 hPR:PB≠RB
 hw:rb<w.heap.size∧tb<w.heap.size
section
variable {base rb tb cap:Nat} {l:List (Tok×ByteArray)} {fv pv:Value} {ps:List Zaw} {w:World} {RB PB:Nat} {op s:ByteArray} {at_:Nat} {wr:World} {kad:Option Addr} {kcp:Nat} {js:List Nat} {kz d' e' a':Nat} {pad:Option Addr} {pcp:Nat} {ps':List Zaw}
theorem FS.below {X:World}(h:FS base rb tb cap l fv pv ps w RB PB op s at_ wr kad kcp js kz d' e' a' pad pcp ps')(hb:Below wr.heap.size wr X):FS base rb tb cap l fv pv ps w RB PB op s at_ X kad kcp js kz d' e' a' pad pcp ps' :=
 { h with
  ht:=h.ht.trans (Zaa.of_below hb)
  pp:=h.pp.below hb
  pr:=h.pr.below hb
  ko:=Zay h.ko fun g hg=>hb.block g (h.ko.lt g hg).2
  rp:=h.rp.below hb }
theorem FS.over {X:World}{k2 d2 e2 a2:Nat}(h:FS base rb tb cap l fv pv ps w RB PB op s at_ wr kad kcp js kz d' e' a' pad pcp ps')(ht:Zaa (·=rb) wr X)(hz:Rz X rb tb cap l fv (.slice pad ps'.length pcp) k2 d2 e2 a2):FS base rb tb cap l fv pv ps w RB PB op s at_ X kad kcp js k2 d2 e2 a2 pad pcp ps' :=
 { h with
  ht:=h.ht.trans (ht.mono fun g hg=>Or.inl hg)
  pp:=h.pp.touch ht (by have:=h.hP;have:=h.hw;show ¬ PB=rb;omega)
  pr:=h.pr.touch ht (by have:=h.hR;have:=h.hw;show ¬ RB=rb;omega)
  ko:=Zay h.ko fun g hg=>ht.block g (h.ko.lt g hg).2 (by have:=(h.ko.lt g hg).1;have:=h.hw;show ¬ g=rb;omega)
  rp:=h.rp.touch ht hz }
theorem FS.kid {w2 w3:World}{o:Obj}{qad kad2:Option Addr}{qcp kcp2 k2 d2 e2 a2:Nat}{qs:List Zaw}(h:FS base rb tb cap l fv pv ps w RB PB op s at_ wr kad kcp js kz d' e' a' pad pcp ps')
  (ht2:Zaa (fun g=>g=rb∨some g=(Value.slice pad ps'.length pcp).ownBlock) wr w2) (rp2:Rp w2 base rb tb cap l fv (.slice qad qs.length qcp) k2 d2 e2 a2 qs) (hlen:ps'.length<qs.length) (mv2:Zea wr (.slice pad ps'.length pcp) (.slice qad qs.length qcp))
  (own3:w3.ownsRow w.heap.size 3 1 (.slice kad2 (js.length+1) kcp2) (js.length+1) (Zg9 js++[.int .i64 ((ps'.length:Nat):Int)])) (hg3:(w2.alloc o).grownBy w3 (Value.slice kad js.length kcp).ownBlock) (hat3:(Value.slice kad2 (js.length+1) kcp2).ownBlock=(Value.slice kad js.length kcp).ownBlock∨(Value.slice kad2 (js.length+1) kcp2).ownBlock=some (w2.alloc o).heap.size) :
  FS base rb tb cap l fv pv ps w RB PB op s at_ (w3.setCell ⟨PB,4,none⟩ (.slice kad2 (js.length+1) kcp2)) kad2 kcp2 (js++[ps'.length]) k2 d2 e2 a2 qad qcp qs∧Px w3 PB ⟨op,0,s,at_,.slice kad js.length kcp⟩∧(∀g,w.heap.size≤g→some g≠(Value.slice pad ps'.length pcp).ownBlock→some g≠(Value.slice kad js.length kcp).ownBlock→g<wr.heap.size→g≠PB→(w3.setCell ⟨PB,4,none⟩ (.slice kad2 (js.length+1) kcp2)).heap[g]?=wr.heap[g]?)∧(∀g,wr.heap.size≤g→g<w2.heap.size→some g≠(Value.slice kad js.length kcp).ownBlock→g≠PB→(w3.setCell ⟨PB,4,none⟩ (.slice kad2 (js.length+1) kcp2)).heap[g]?=w2.heap[g]?)∧(∀g,some g=(Value.slice kad2 (js++[ps'.length]).length kcp2).ownBlock→some g=(Value.slice kad js.length kcp).ownBlock∨w2.heap.size≤g):=by
 have hw:=h.hw
 have hP:=h.hP
 have hR:=h.hR
 have sz2:=ht2.size
 have sz3:=hg3.size
 simp at sz3
 have ltP:=Zag h.pp.blk
 have ltR:=Zag h.pr.blk
 have ltk:∀g,some g=(Value.slice kad js.length kcp).ownBlock→w.heap.size≤g∧g<wr.heap.size:=fun g hg=>h.ko.lt g hg.symm
 have nPw:¬ (PB=rb∨some PB=(Value.slice pad ps'.length pcp).ownBlock):=by rintro (g | g);omega;exact h.nP g
 have nRw:¬ (RB=rb∨some RB=(Value.slice pad ps'.length pcp).ownBlock):=by rintro (g | g);omega;exact h.nR g
 have kP:some PB≠(Value.slice kad js.length kcp).ownBlock:=fun e=>(h.kn PB e).2.1 rfl
 have kR:some RB≠(Value.slice kad js.length kcp).ownBlock:=fun e=>(h.kn RB e).2.2 rfl
 -- from wr to w3
 have b3:∀g,g<w2.heap.size→some g≠(Value.slice kad js.length kcp).ownBlock→w3.heap[g]?=w2.heap[g]?:=fun g hg hn=>by
  rw[hg3.block g (by simp;omega) hn,(Zab w2 o).block g hg]
 have pp2:Px w3 PB ⟨op,0,s,at_,.slice kad js.length kcp⟩:=⟨by rw[b3 PB (by omega) kP,ht2.block PB ltP nPw];exact h.pp.blk⟩
 have pr2:Px w3 RB Zaw.zero:=⟨by rw[b3 RB (by omega) kR,ht2.block RB ltR nRw];exact h.pr.blk⟩
 have hlt2:=rp2.lt
 have kq:∀g,some g=(Value.slice kad js.length kcp).ownBlock→some g≠(Value.slice qad qs.length qcp).ownBlock:=by
  intro g hg e
  rcases mv2.own g e with e2 | e2
  ·exact (h.kn g hg).1 e2
  ·have:=(ltk g hg).2;omega
 have nPq:some PB≠(Value.slice qad qs.length qcp).ownBlock:=fun e=>by
  rcases mv2.own PB e with e2 | e2
  ·exact h.nP e2
  ·omega
 have nRq:some RB≠(Value.slice qad qs.length qcp).ownBlock:=fun e=>by
  rcases mv2.own RB e with e2 | e2
  ·exact h.nR e2
  ·omega
 have rp3:Rp w3 base rb tb cap l fv (.slice qad qs.length qcp) k2 d2 e2 a2 qs:=by
  have z:Rz w3 rb tb cap l fv (.slice qad qs.length qcp) k2 d2 e2 a2:=rp2.z.keep (b3 rb hlt2.1 fun e=>by have:=(ltk rb e).1;omega) (b3 tb hlt2.2.1 fun e=>by have:=(ltk tb e).1;omega)
  exact⟨z,Zay rp2.own fun g hg=>b3 g (hlt2.2.2 g hg).2 fun e=>kq g e hg.symm,rp2.nr,rp2.nt,by have:=rp2.hb;omega⟩
 have hk2:∀g,some g=(Value.slice kad2 (js.length+1) kcp2).ownBlock→some g≠(Value.slice qad qs.length qcp).ownBlock∧g≠PB∧g≠RB:=by
  intro g hg
  rcases hat3 with e | e
  ·rw[e] at hg
   exact⟨kq g hg,(h.kn g hg).2⟩
  ·rw[e] at hg
   simp at hg
   subst hg
   refine⟨fun e2=>?_,by omega,by omega⟩
   have:=(hlt2.2.2 _ e2.symm).2
   omega
 refine⟨⟨?_,⟨?_⟩,?_,?_,?_,?_,by have:=h.le;omega,h.mv.trans mv2 h.ht.size,nPq,nRq,hP,hR,h.hPR,hw⟩,pp2,?_,?_,?_⟩
 ·refine Zaa.setCell ?_ (p:=⟨PB,4,none⟩) (Or.inr hP) _
  refine Zcy (Zcy h.ht ht2 ?_) (T:=fun g=>some g=(Value.slice kad js.length kcp).ownBlock) ⟨?_,?_,?_,?_,?_⟩ ?_
  ·rintro g (e | e)
   ·exact Or.inl (Or.inl e)
   ·rcases h.mv.own g e with e2 | e2
    ·exact Or.inl (Or.inr e2)
    ·exact Or.inr e2
  ·rw[hg3.os];rfl
  ·rw[hg3.tape];rfl
  ·rw[hg3.output];rfl
  ·omega
  ·exact fun g hg hn=>b3 g hg hn
  ·exact fun g hg=>Or.inr (ltk g hg).1
 ·rw[Zau pp2.blk]
  simp
 ·exact⟨by rw[Below.heap_setCell _ ⟨PB,4,none⟩ _ RB h.hPR.symm];exact pr2.blk⟩
 ·rw[List.length_append]
  refine Zay ?_ fun g hg=>Below.heap_setCell _ ⟨PB,4,none⟩ _ g (hk2 g (by simpa using hg.symm)).2.1
  simpa[Zg9] using own3
 ·intro g hg
  exact hk2 g (by simpa using hg)
 ·exact rp3.other (by omega) (by omega) nPq _ _
 ·intro g h1 h2 h3 h4 h5
  rw[Below.heap_setCell _ ⟨PB,4,none⟩ _ g h5,b3 g (by omega) h3]
  exact ht2.block g h4 (by rintro (e | e);omega;exact h2 e)
 ·intro g _ h1 h2 h3
  rw[Below.heap_setCell _ ⟨PB,4,none⟩ _ g h3,b3 g h1 h2]
 ·intro g hg
  have hg2:some g=(Value.slice kad2 (js.length+1) kcp2).ownBlock:=by simpa using hg
  rcases hat3 with e | e
  ·rw[e] at hg2;exact Or.inl hg2
  ·rw[e] at hg2;simp at hg2;exact Or.inr (by omega)
def Zot   (base rb tb cap : Nat) (l : List (Tok × ByteArray)) (fv pv : Value) (ps : List Zaw  ) (w : World) (RB PB : Nat) (op s : ByteArray) (at_ : Nat) (dd a B0 G : Nat) (m : Int) (Rr : Res (List Ex)) (gh : Nat) (iv : Value) (wr : World) : Prop :=
  ∃ (kad : Option Addr) (kcp : Nat) (js : List Nat) (kz d' e' a' : Nat) (pad : Option Addr) (pcp : Nat) (ps' : List Zaw  ),
    iv = .int .i64 ((js.length : Nat) : Int) ∧ FS base rb tb cap l fv pv ps w RB PB op s at_ wr kad kcp js kz d' e' a' pad pcp ps' ∧
    ((e' = 0 ∧ gh = l.length - kz + 1 ∧ a' = a ∧ d' = dd ∧ ps <+: ps' ∧ ps'.length + (l.length - kz) ≤ B0 ∧ js.length + (l.length - kz) ≤ 3000 ∧ ∃ es f, Zby   wr (fun g => w.heap.size ≤ g ∧ some g ≠ (Value.slice pad ps'.length pcp).ownBlock ∧ some g ≠ (Value.slice kad js.length kcp).ownBlock ∧ g ≠ PB) ps' ps.length es js ∧ (Zan    l kz).length ≤ f ∧ f ≤ G ∧ (0 ≤ m → (js.length : Int) ≤ m) ∧ Rr = Zor  es (pL f dd (if m < 0 then m else m - js.length) (Zan    l kz)))
     ∨ (e' ≠ 0 ∧ gh = 0 ∧ Rr = .err e' a'))
theorem Zi7 {X:World}{k d a:Nat}(h:FS base rb tb cap l fv pv ps w RB PB op s at_ X kad kcp js kz d' e' a' pad pcp ps')(he:e'≠0):
  Zmd (.err e' a') base rb tb cap l fv pv k d a ps w (.returned (Zid ⟨op,0,s,at_,.slice kad js.length kcp⟩)) (((((X.setCell ⟨RB,0,none⟩ (.string op)).setCell ⟨RB,1,none⟩ (.int .i64 0)).setCell ⟨RB,2,none⟩ (.string s)).setCell ⟨RB,3,none⟩ (.int .i64 ((at_:Nat):Int))).setCell ⟨RB,4,none⟩ (.slice kad js.length kcp)):=by
 have hw:=h.hw
 have hR:=h.hR
 refine⟨h.ht.set5 hR _ _ _ _ _,kz,d',_,ps',⟨op,0,s,at_,.slice kad js.length kcp⟩,kad,js.length,kcp,rfl,rfl,h.rp.other5 (by omega) (by omega) h.nR _ _ _ _ _,h.le,h.mv,he⟩
theorem fin_ok {X:World}{k d a:Nat}{es:List Ex}{wd nm:List UInt8}(h:FS base rb tb cap l fv pv ps w RB PB op s at_ X kad kcp js kz d 0 a pad pcp ps')(hop:op.data.toList=wd)(hs:s.data.toList=nm)(hpre:ps <+: ps')
  (hrep:Zby X (fun g=>w.heap.size≤g∧some g≠(Value.slice pad ps'.length pcp).ownBlock∧some g≠(Value.slice kad js.length kcp).ownBlock∧g≠RB) ps' ps.length es js) (hsz:ps'.length+(l.length-kz)+1≤ps.length+(l.length-k)) :
  Zmd (.ok (.form wd nm at_ es) (Zan l kz)) base rb tb cap l fv pv k d a ps w (.returned (Zid ⟨op,0,s,at_,.slice kad js.length kcp⟩)) (((((X.setCell ⟨RB,0,none⟩ (.string op)).setCell ⟨RB,1,none⟩ (.int .i64 0)).setCell ⟨RB,2,none⟩ (.string s)).setCell ⟨RB,3,none⟩ (.int .i64 ((at_:Nat):Int))).setCell ⟨RB,4,none⟩ (.slice kad js.length kcp)):=by
 have hw:=h.hw
 have hR:=h.hR
 refine⟨h.ht.set5 hR _ _ _ _ _,kz,_,ps',⟨op,0,s,at_,.slice kad js.length kcp⟩,kad,js.length,kcp,wd,nm,at_,es,js,rfl,rfl,h.rp.other5 (by omega) (by omega) h.nR _ _ _ _ _,rfl,hpre,h.mv,rfl,hop,hs,rfl,?_,?_,hsz⟩
 ·have r0:Zao X (w.heap.size≤·) 3 1 (.slice kad js.length kcp) js.length (Zg9 js):=Zao.of_owns h.ko
  rcases r0 with ⟨q1,q2⟩
  refine⟨q1,?_⟩
  rcases q2 with g | ⟨g,c2,cur,hv,hg,hh,r⟩
  ·exact Or.inl g
  ·have kk:=h.kn g (by rw[hv];rfl)
   exact Or.inr ⟨g,c2,cur,hv,⟨hg,kk.1⟩,by rw[Zqr kk.2.2];exact hh,r⟩
 ·refine Zby.map (lo:=ps.length) (fun i q hi hq=>hq) (Nat.le_refl _) (fun sl m vs hr=>?_) hrep
  exact (hr.keep (w':=_) fun g hg hlt=>Zqr hg.2.2.2 _ _ _ _ _).weaken fun g hg=>⟨hg.1.1,hg.1.2.1⟩
def ExDo (base rb tb cap:Nat)(l:List (Tok×ByteArray))(fv:Value)(a g:Nat):Prop :=
 ∀(w:World) (pv:Value) (ps:List Zaw) (k d:Nat),Rp w base rb tb cap l fv pv k d 0 a ps→ps.length+(l.length-k)≤3000→(Zan l k).length≤g+2 →
  Calls prog 99 #[.pointer (some ⟨rb,0,none⟩)] w (Zg7 (pE (pL g) d (Zan l k)) base rb tb cap l fv pv k d a ps w)
def exBoth (base rb tb cap:Nat)(l:List (Tok×ByteArray))(fv pv:Value)(k d a:Nat)(ps:List Zaw)(g:Nat)(w:World)(r:Ending)(w2:World):Prop :=
 ∃(k2 d2 e2 a2:Nat) (qad:Option Addr) (qcp:Nat) (qs:List Zaw),r=.returned (.int .i64 ((ps.length:Nat):Int))∧Zaa (fun g=>g=rb∨some g=pv.ownBlock) w w2∧Rp w2 base rb tb cap l fv (.slice qad qs.length qcp) k2 d2 e2 a2 qs∧ps.length<qs.length∧Zea w pv (.slice qad qs.length qcp) ∧
  Aside ((e2=0∧a2=a∧d2=d∧ps <+: qs∧qs.length+(l.length-k2)≤ps.length+(l.length-k)∧k<k2∧∃ex,pE (pL g) d (Zan l k)=.ok ex (Zan l k2)∧Ze0 w2 (fun g=>w.heap.size≤g∧some g≠(Value.slice qad qs.length qcp).ownBlock) qs ps.length ex ps.length)∨(e2≠0∧pE (pL g) d (Zan l k)=.err e2 a2))
theorem Zof {base rb tb cap:Nat}{l:List (Tok×ByteArray)}{fv pv:Value}{k d a:Nat}{ps:List Zaw}{g:Nat}{w:World}(IH:ExDo base rb tb cap l fv a g)(h:Rp w base rb tb cap l fv pv k d 0 a ps)(hsz:ps.length+(l.length-k)≤3000)(hg:(Zan l k).length≤g+2):
  Calls prog 99 #[.pointer (some ⟨rb,0,none⟩)] w (exBoth base rb tb cap l fv pv k d a ps g w):=by
 refine (IH w pv ps k d h hsz hg).mono ?_
 rintro r w2 ⟨ht,hr,hx⟩
 cases hp:pE (pL g) d (Zan l k) with
 | err c p =>
  rw[hp] at hx
  obtain⟨kz,d',pv',ps',h1,h2,h3,h4⟩:=hx
  obtain⟨ad,cp,rfl⟩:=Zaf h1.own
  exact⟨kz,d',c,p,ad,cp,ps',hr,ht,h1,h2,h3,Or.inr ⟨h4,hp⟩⟩
 | ok ex rest =>
  rw[hp] at hx
  obtain⟨kz,pv',ps',h1,h2,h3,h4,h5,h6,h7⟩:=hx
  obtain⟨ad,cp,rfl⟩:=Zaf h1.own
  have hlen:=Zws (fun d m ts es r=>Zpy g d m ts es r) hp
  rw[←h2,Zbv,Zbv] at hlen
  exact⟨kz,d,0,a,ad,cp,ps',hr,ht,h1,h4,h5,Or.inl ⟨rfl,rfl,rfl,h3,h7,by omega,ex,by rw[hp,h2],h6⟩⟩
theorem Zot.next {base rb tb cap:Nat}{l:List (Tok×ByteArray)}{fv pv:Value}{ps:List Zaw}{w:World}{RB PB:Nat}{op s:ByteArray}{at_ dd a B0 G:Nat}{m:Int}{Rr:Res (List Ex)}{wr W:World}{kad kad2:Option Addr}{kcp kcp2:Nat}{js:List Nat}{kz:Nat}{pad qad:Option Addr}{pcp qcp:Nat}{ps' qs:List Zaw}{k2 d2 e2 a2 f:Nat}{es:List Ex}{w2:World}
  (fs:FS base rb tb cap l fv pv ps w RB PB op s at_ wr kad kcp js kz dd 0 a pad pcp ps')
  (fs2:FS base rb tb cap l fv pv ps w RB PB op s at_ W kad2 kcp2 (js++[ps'.length]) k2 d2 e2 a2 qad qcp qs)
  (hkeep:∀g,w.heap.size≤g→some g≠(Value.slice pad ps'.length pcp).ownBlock→some g≠(Value.slice kad js.length kcp).ownBlock→g<wr.heap.size→g≠PB→W.heap[g]?=wr.heap[g]?)
  (hkeep2:∀g,wr.heap.size≤g→g<w2.heap.size→some g≠(Value.slice kad js.length kcp).ownBlock→g≠PB→W.heap[g]?=w2.heap[g]?)
  (hkid2:∀g,some g=(Value.slice kad2 (js++[ps'.length]).length kcp2).ownBlock→some g=(Value.slice kad js.length kcp).ownBlock∨w2.heap.size≤g)
  (hmv:Zea wr (.slice pad ps'.length pcp) (.slice qad qs.length qcp)) (hww:wr.heap.size≤w2.heap.size)
  (hpre:ps <+: ps') (hB:ps'.length+(l.length-kz)≤B0) (hj:js.length+(l.length-kz)≤3000)
  (hrep:Zby wr (fun g=>w.heap.size≤g∧some g≠(Value.slice pad ps'.length pcp).ownBlock∧some g≠(Value.slice kad js.length kcp).ownBlock∧g≠PB) ps' ps.length es js)
  (hf1:(Zan l kz).length≤f+1) (hf2:f+1≤G) (hm:0≤m→(js.length:Int)+1≤m)
  (hR:Rr=Zor es (Znh f dd (if m<0 then m else m-js.length) (pE (pL f) dd (Zan l kz))))
  (H:(e2=0∧a2=a∧d2=dd∧ps' <+: qs∧qs.length+(l.length-k2)≤ps'.length+(l.length-kz)∧kz<k2∧∃ex,pE (pL f) dd (Zan l kz)=.ok ex (Zan l k2)∧Ze0 w2 (fun g=>wr.heap.size≤g∧some g≠(Value.slice qad qs.length qcp).ownBlock) qs ps'.length ex ps'.length)∨(e2≠0∧pE (pL f) dd (Zan l kz)=.err e2 a2)) :
  ∃gh,gh<l.length-kz+1∧Zot base rb tb cap l fv pv ps w RB PB op s at_ dd a B0 G m Rr gh (.int .i64 (((js++[ps'.length]).length:Nat):Int)) W:=by
 have hk2l:=fs2.rp.z.hk
 have hk1l:=fs.rp.z.hk
 have hwr:=fs.ht.size
 rcases H with ⟨rfl,rfl,rfl,hpq,hsz,hk,ex,hpe,hrx⟩ | ⟨he,hpe⟩
 ·refine⟨l.length-k2+1,by omega,kad2,kcp2,js++[ps'.length],k2,d2,0,a2,qad,qcp,qs,rfl,fs2,Or.inl ⟨rfl,rfl,rfl,rfl,hpre.trans hpq,by omega,by simp;omega,es++[ex],f,?_,?_,by omega,?_,?_⟩⟩
  ·refine Zby.snoc ?_ ?_
   ·refine Ze0.map (lo:=ps'.length) (fun i q _ hq=>hq) fs.le (fun sl n vs hr=>?_) hrx
    have:Zao w2 (fun g=>(wr.heap.size≤g∧some g≠(Value.slice qad qs.length qcp).ownBlock)∧g<w2.heap.size) 3 1 sl n vs:=by
     obtain⟨q1,q2⟩:=hr
     refine⟨q1,?_⟩
     rcases q2 with g | ⟨g,cp,cur,hv,hg,hh,r⟩
     ·exact Or.inl g
     ·exact Or.inr ⟨g,cp,cur,hv,⟨hg,Zag hh⟩,hh,r⟩
    have ltP:=Zag fs.pp.blk
    refine (this.keep (w':=W) fun g hg hlt=>hkeep2 g hg.1.1 hlt (fun e=>by have:=(fs.ko.lt g e.symm).2;omega) (by omega)).weaken fun g hg=>⟨by omega,hg.1.1.2,fun e=>?_,by omega⟩
    rcases hkid2 g e with e2 | e2
    ·have:=(fs.ko.lt g e2.symm).2;omega
    ·omega
   ·refine Zby.map (lo:=ps.length) (fun i q _ hq=>?_) (Nat.le_refl _) (fun sl n vs hr=>?_) hrep
    ·obtain⟨r,hr⟩:=hpq
     rw[←hr,List.getElem?_append_left (List.getElem?_eq_some_iff.1 hq).1]
     exact hq
    ·refine (hr.keep (w':=W) fun g hg hlt=>hkeep g hg.1 hg.2.1 hg.2.2.1 hlt hg.2.2.2).weaken fun g hg=>⟨hg.1.1,fun e=>?_,fun e=>?_,hg.1.2.2.2⟩
     ·rcases hmv.own g e with e2 | e2
      ·exact hg.1.2.1 e2
      ·have:=hg.2;omega
     ·rcases hkid2 g e with e2 | e2
      ·exact hg.1.2.2.1 e2
      ·have:=hg.2;omega
  ·rw[Zbv] at hf1 ⊢;omega
  ·intro h0;have:=hm h0;simp;omega
  ·rw[hR,hpe,Znh,Zoq]
   congr 2
   split
   ·rfl
   ·simp;omega
 ·refine⟨0,by omega,kad2,kcp2,js++[ps'.length],k2,d2,e2,a2,qad,qcp,qs,rfl,fs2,Or.inr ⟨he,rfl,?_⟩⟩
  rw[hR,hpe];rfl
end
abbrev Zl5:Obj:=.cells #[.string ⟨#[]⟩,.int .i64 0,.string ⟨#[]⟩,.int .i64 0,.slice none 0 0] 322
abbrev Zrg (op:ByteArray)(p:Nat):Obj:=.cells #[.string op,.int .i64 0,.string ⟨#[]⟩,.int .i64 ((p:Nat):Int),.slice none 0 0] 322
theorem FS.start {base rb tb cap:Nat}{l:List (Tok×ByteArray)}{fv:Value}{vad:Option Addr}{vcap:Nat}{ps:List Zaw}{w w4:World}{op:ByteArray}{p k k4 d d4 e4 a a4:Nat}(h:Rp w base rb tb cap l fv (.slice vad ps.length vcap) k d 0 a ps)(T:Zaa (·=rb) (w.alloc Zl5) w4)(rp4:Rp w4 base rb tb cap l fv (.slice vad ps.length vcap) k4 d4 e4 a4 ps):
  FS base rb tb cap l fv (.slice vad ps.length vcap) ps w w.heap.size w4.heap.size op ⟨#[]⟩ p (w4.alloc (Zrg op p)) none 0 [] k4 d4 e4 a4 vad vcap ps:=by
 have hlt:=h.lt
 have sz:=T.size
 simp at sz
 have pr4:Px w4 w.heap.size Zaw.zero:=(Px.new w Zaw.zero rfl).touch T (by show ¬ w.heap.size=rb;omega)
 refine⟨?_,Px.new w4 ⟨op,0,⟨#[]⟩,p,.slice none 0 0⟩ rfl,pr4.below (Zab _ _),World.ownsRow_nil _ _ _ _,?_,rp4.alloc _,Nat.le_refl _,Or.inl rfl,?_,?_,by omega,Nat.le_refl _,by omega,⟨hlt.1,hlt.2.1⟩⟩
 ·exact (((Zaa.refl _ w).alloc Zl5).trans (T.mono fun g hg=>Or.inl hg)).alloc _
 ·intro g hg;cases hg
 ·intro e;have:=(hlt.2.2 _ e.symm).2;omega
 ·intro e;have:=(hlt.2.2 _ e.symm).2;omega
theorem FS.name {base rb tb cap:Nat}{l:List (Tok×ByteArray)}{fv pv:Value}{ps:List Zaw}{w:World}{RB PB:Nat}{op s:ByteArray}{at_:Nat}{wr:World}{kad:Option Addr}{kcp:Nat}{js:List Nat}{kz d' e' a':Nat}{pad:Option Addr}{pcp:Nat}{ps':List Zaw}(h:FS base rb tb cap l fv pv ps w RB PB op s at_ wr kad kcp js kz d' e' a' pad pcp ps')(s2:ByteArray)(p2:Nat):
  FS base rb tb cap l fv pv ps w RB PB op s2 p2 ((wr.setCell ⟨PB,2,none⟩ (.string s2)).setCell ⟨PB,3,none⟩ (.int .i64 ((p2:Nat):Int))) kad kcp js kz d' e' a' pad pcp ps':=by
 have hw:=h.hw
 have hP:=h.hP
 refine { h with ht:=(h.ht.setCell (p:=⟨PB,2,none⟩) (Or.inr hP) _).setCell (p:=⟨PB,3,none⟩) (Or.inr hP) _,pp:=⟨?_⟩,pr:=⟨?_⟩,ko:=?_,rp:=(h.rp.other (by omega) (by omega) h.nP _ _).other (by omega) (by omega) h.nP _ _ }
 ·rw[Zau (Zau h.pp.blk _)];rfl
 ·rw[Below.heap_setCell _ ⟨PB,3,none⟩ _ RB h.hPR.symm,Below.heap_setCell _ ⟨PB,2,none⟩ _ RB h.hPR.symm];exact h.pr.blk
 ·refine Zay h.ko fun g hg=>?_
  have:=(h.kn g hg.symm).2.1
  rw[Below.heap_setCell _ ⟨PB,3,none⟩ _ g this,Below.heap_setCell _ ⟨PB,2,none⟩ _ g this]
theorem Zw9 (r:Res (List Ex)):Zor [] r=r:=by cases r<;>simp[Zor]
section
variable {base rb tb cap:Nat} {l:List (Tok×ByteArray)} {fv pv:Value} {ps:List Zaw} {w:World} {RB PB:Nat} {op s:ByteArray} {at_:Nat} {wr:World} {kad:Option Addr} {kcp:Nat} {js:List Nat} {kz d' e' a':Nat} {pad:Option Addr} {pcp:Nat} {ps':List Zaw}
theorem FS.kept2 {w2:World}(h:FS base rb tb cap l fv pv ps w RB PB op s at_ wr kad kcp js kz d' e' a' pad pcp ps')(ht2:Zaa (fun g=>g=rb∨some g=(Value.slice pad ps'.length pcp).ownBlock) wr w2):w2.ownsRow w.heap.size 3 1 (.slice kad js.length kcp) js.length (Zg9 js) :=
 Zay h.ko fun g hg=>ht2.block g (h.ko.lt g hg).2 (by
  rintro (e | e)
  ·have:=(h.ko.lt g hg).1;have:=h.hw;omega
  ·exact (h.kn g hg.symm).1 e)
theorem Zrt {w9:World}{k d a k1 d1 e1 a1:Nat}{es:List Ex}(h:FS base rb tb cap l fv pv ps w RB PB op s at_ wr kad kcp js k1 d1 e1 a1 pad pcp ps')(h9:FS base rb tb cap l fv pv ps w RB PB op s at_ w9 kad kcp js kz d 0 a pad pcp ps')(ht9:Zaa (·=rb) wr w9)(_hRB:RB=w.heap.size)(hpre:ps <+: ps')
  (hrep:Zby wr (fun g=>w.heap.size≤g∧some g≠(Value.slice pad ps'.length pcp).ownBlock∧some g≠(Value.slice kad js.length kcp).ownBlock∧g≠PB) ps' ps.length es js) (hrb:∀sl n vs,Zao wr (fun g=>w.heap.size≤g∧some g≠(Value.slice pad ps'.length pcp).ownBlock∧some g≠(Value.slice kad js.length kcp).ownBlock∧g≠PB) 3 1 sl n vs→Zao wr (fun g=>g≠RB) 3 1 sl n vs) (hsz:ps'.length+(l.length-kz)+1≤ps.length+(l.length-k)) :
  Zmd (.ok (.form op.data.toList s.data.toList at_ es) (Zan l kz)) base rb tb cap l fv pv k d a ps w (.returned (Zid ⟨op,0,s,at_,.slice kad js.length kcp⟩)) (((((w9.setCell ⟨RB,0,none⟩ (.string op)).setCell ⟨RB,1,none⟩ (.int .i64 0)).setCell ⟨RB,2,none⟩ (.string s)).setCell ⟨RB,3,none⟩ (.int .i64 ((at_:Nat):Int))).setCell ⟨RB,4,none⟩ (.slice kad js.length kcp)):=by
 have hw:=h.hw
 refine fin_ok h9 rfl rfl hpre (Zby.map (lo:=ps.length) (fun i q _ hq=>hq) (Nat.le_refl _) (fun sl n vs hr=>?_) hrep) hsz
 have r2:=hrb sl n vs hr
 obtain⟨q1,q2⟩:=hr
 obtain⟨_,q3⟩:=r2
 refine⟨q1,?_⟩
 rcases q2 with g | ⟨g,cp,cur,hv,hg,hh,r⟩
 ·exact Or.inl g
 ·rcases q3 with ⟨g3,_⟩ | ⟨g3,cp3,cur3,hv3,hg3,_⟩
  ·rw[hv] at g3;cases g3
  ·rw[hv] at hv3
   simp only[Value.slice.injEq,Option.some.injEq,Addr.mk.injEq,and_true,true_and] at hv3
   obtain⟨rfl,_⟩:=hv3
   refine Or.inr ⟨g,cp,cur,hv,⟨hg.1,hg.2.1,hg.2.2.1,hg3⟩,?_,r⟩
   rw[ht9.block g (Zag hh) (by show ¬ g=rb;omega)]
   exact hh
theorem Zgu {D:Nat→Prop}{B:Nat}{p:Zaw}(h:Px wr B p)(_hne:322≠3):∀sl n vs,Zao wr D 3 1 sl n vs→Zao wr (fun g=>g≠B) 3 1 sl n vs:=by
 rintro sl n vs ⟨q1,q2⟩
 refine⟨q1,?_⟩
 rcases q2 with g | ⟨g,cp,cur,hv,hg,hh,r⟩
 ·exact Or.inl g
 ·refine Or.inr ⟨g,cp,cur,hv,?_,hh,r⟩
  rintro rfl
  rw[h.blk] at hh
  simp at hh
end
theorem Z2m (x:Int)(y z:Value)(W:World):Sem.run prog (Instr.field 133 (.agg #[.int .u8 x,y,z]) 0) W=.ok (.int .u8 x) W:=by kernel_rfl
end Go.Proofs.YtliapghpeoaonaaGreatDoor
namespace Go.Proofs.YtliapghpeoaonaaGreatDoor
open Go.Proofs.Tryz
open Go.RowKit
attribute [local go_sem ↓] Go.wp_at_zero Go.wp_at_succ
attribute [local go_sem] Z2m
section
variable {w:World} {base rb tb cap:Nat} {l:List (Tok×ByteArray)} {fv pv:Value} {k d e a:Nat} {ps:List Zaw}
theorem Zu2 (h:Rp w base rb tb cap l fv pv k d 0 a ps)(hwf:Zfr l)(hsz:ps.length+(l.length-k)≤3001)(hct:(l[k]'h.z.hk).1.k=.opn)(hk1:k+1<l.length)(hd2:d<16)(hw1:(l[k+1]'hk1).1.k=.word)(sn:Int)(hsh:Za3 (l[k+1]'hk1).2.data.toList=some (false,sn))(G:Nat)(IH:∀g,g<G→ExDo base rb tb cap l fv a g)(hG:(Zan l (k+2)).length≤G):
  Calls prog 150 #[.pointer (some ⟨rb,0,none⟩)] w (Zmd (Zie (l[k+1]'hk1).1.body [] (l[k+1]'hk1).1.at_ (pL G (d+1) sn (Zan l (k+2)))) base rb tb cap l fv pv k d a ps w):=by
 have hlt:=h.z.lt
 have hl:=h.z.hl
 have hne1:=Nat.ne_of_lt hlt.1
 have hne2:=Nat.ne_of_lt hlt.2
 have hk:=h.z.hk
 have hkc0:Zba (l[k]'hk).1.k=40:=by rw[hct];rfl
 obtain⟨vad,vcap,hpv⟩:=Zaf h.own
 subst hpv
 have r0:=h.alloc Zl5
 have cn1:∀(X:World) (pv:Value) (d e a:Nat),Rz X rb tb cap l fv pv (k+1) d e a→Calls prog 56 #[.pointer (some ⟨rb,0,none⟩)] X fun r w'=>r=.returned (Zaq (l[(k+1)]'hk1))∧Below X.heap.size X w':=fun X pv d e a hz=>Zbf hz
 have hcv:Zaq (l[(k+1)]'hk1)=.agg #[.int .u8 97,.string (l[(k+1)]'hk1).2,.int .i64 (((l[(k+1)]'hk1).1.at_:Nat):Int)]:=by simp[hw1,Zba]
 have cf:=Zc2 (l[(k+1)]'hk1).2
 rw[hsh] at cf
 have hn2:=hwf.more (k+1) hk1 (by rw[hw1];decide) (by rw[hw1];decide)
 have ov2:∀(X:World) (pv:Value) (d a:Nat),Rz X rb tb cap l fv pv (k+1) d 0 a→Calls prog 97 #[.pointer (some ⟨rb,0,none⟩),.int .u8 97,.string ⟨#[]⟩] X fun r w'=>(∃v,r=.returned v)∧Zaa (·=rb) X w'∧Rz w' rb tb cap l fv pv (k+1+1) d 0 a:=fun X pv d a hz=>(Zjw hz (by rw[hw1];rfl) hn2).mono fun r w' ⟨h1,h2⟩=>⟨⟨_,h1⟩,h2⟩
 have ov1:=Zjy r0.z hkc0 hd2 hk1
 have hb1w:=hwf.tx _ (List.getElem_mem hk1)
 have hres0:Zie (l[k+1]'hk1).1.body [] (l[k+1]'hk1).1.at_ (pL G (d+1) sn (Zan l (k+2)))=Zie (l[k+1]'hk1).2.data.toList [] (l[k+1]'hk1).1.at_ (pL G (d+1) sn (Zan l (k+2))):=by rw[hb1w]
 rw[hres0]
 clear hres0 hb1w
 have hsb:=Zem hsh
 generalize hts:(l[k+1]'hk1).2=ts at *
 generalize hpp:(l[k+1]'hk1).1.at_=p at *
 generalize Zaq (l[k+1]'hk1)=tv1 at *
 subst hcv
 generalize Zaq (l[k]'hk)=tv0 at *
 go_enter func150,ntmps150
 go_wp2_with (first
  |(go_at_call 97;go_loud (refine (ov2 _ _ _ _ r2.z).mono ?_;rintro r w4 ⟨⟨tv4,rfl⟩,ht4,z4⟩;have r4:=r2.touch ht4 z4;have g4:=g2.touch ht4 (Ne.symm ne3);obtain⟨s0,s1,s2⟩:=g4.facts;have sz4:=ht4.size;(try simp at sz4);clear q0 q1 q2;have T04:Zaa (·=rb) (w.alloc Zl5) w4:=((ht1.trans (Zaa.of_below hb2)).alloc _).trans ht4;have fs0:=FS.start (op:=ts) (p:=p) h T04 r4;obtain⟨x0,x1,x2,x3,x4,x5,x6⟩:=fs0.rp.z.cells))
  |(go_at_call 148;refine (cf _).mono ?_;rintro r w9 ⟨rfl,rfl⟩;simp only[Zgg])
  |(go_at_call 56;go_loud (refine (cn1 _ _ _ _ _ z1).mono ?_;rintro r w2 ⟨rfl,hb2⟩;have r2:=(r1.below hb2).alloc (Zc3 97 ts p);have g2:=Za9 w2 97 ts p;obtain⟨q0,q1,q2⟩:=g2.facts;have sz1:=ht1.size;have sz2:=hb2.size;simp at sz1;have ne3:rb≠w2.heap.size:=(by omega)))
  |(go_at_call 97;go_loud (refine ov1.mono ?_;rintro r w1 ⟨rfl,ht1,z1⟩;have r1:=r0.touch ht1 z1)))
 have hB0:ps.length+(l.length-(k+1+1))≤ps.length+(l.length-k)-2:=by omega
 generalize hBe:ps.length+(l.length-k)-2=B0 at *
 generalize hPB:w4.heap.size=PB at *
 generalize w4.alloc (Zrg ts p)=W at *
 clear x0 x1 x2 x3 x4 x5 x6 T04 r4 r2 r1 r0 ht1 ht4 hb2 z1 z4 g2 g4 s0 s1 s2 cn1 cf ov1 ov2 sz1 sz2 sz4 ne3
 generalize hRr:pL G (d+1) sn (Zan l (k+2))=Rr at *
 go_loopg [9] (l.length-(k+1+1)+1) (fun gh iv wr=>Zot base rb tb cap l fv (.slice vad ps.length vcap) ps w w.heap.size PB ts ⟨#[]⟩ p (d+1) a B0 G sn Rr gh iv wr)
 case atStart=>exact⟨none,0,[],_,_,_,_,vad,vcap,ps,rfl,fs0,(by rw[←hRr];exact Or.inl ⟨rfl,rfl,rfl,rfl,List.prefix_rfl,by omega,by simp;omega,[],G,by rw[Zby],hG,Nat.le_refl _,by simp,by simp[Zw9]⟩)⟩
 case round =>
  obtain⟨kad,kcp,js,kz,d',e',a',pad,pcp,ps',rfl,fs,hst⟩:=hrel
  have hk':=fs.rp.z.hk
  have hl3:=fs.rp.z.hl
  obtain⟨c0,c1,c2,c3,c4,c5,c6⟩:=fs.rp.z.cells
  rcases hst with ⟨rfl,rfl,ha',rfl,hpre,hB,hj,es,f,hrep,hf1,hf2,hm,hR⟩ | ⟨he,rfl,hR⟩
  ·obtain rfl:=ha'.symm
   have hfp:0<f:=by rw[Zbv] at hf1;omega
   obtain⟨f,rfl⟩:∃f',f=f'+1:=⟨f-1,by omega⟩
   have htc:=Zbk hk'
   have hbase:=fs.ht.size
   by_cases hneg:sn<0
   ·rw[if_pos hneg] at hR
    have hnj:¬ ((js.length:Int)=sn):=by omega
    by_cases hcls:(l[kz]'hk').1.k=.cls
    ·-- A
     have hRR:Hid (Rr=.ok es (Zan l (kz+1))):=by
      show _=_
      rw[hR,htc,Zgv (Or.inr ⟨hneg,hcls⟩),if_pos hcls]
      simp[Zor]
     have hn9:=hwf.more kz hk' (by rw[hcls];decide) (by rw[hcls];decide)
     have hkc9:Zba (l[kz]'hk').1.k=41:=by rw[hcls];rfl
     have hcv9:Zaq (l[kz]'hk')=.agg #[.int .u8 41,.string (l[kz]'hk').2,.int .i64 (((l[kz]'hk').1.at_:Nat):Int)]:=by rw[←hkc9]
     have cn9:=Zbf fs.rp.z
     rw[hcv9] at cn9
     have fsA:=fs
     clear hR htc hf1 hm
     go_wp2_with (first
      |(go_at_call 56;go_loud (refine cn9.mono ?_;rintro r w8 ⟨rfl,hb8⟩;have fs8:=fsA.below hb8))
      |(go_at_call 97;go_loud (refine (Zh2 fs8.rp.z hkc9 hn9).mono ?_;rintro r w9 ⟨rfl,ht9,z9⟩;generalize Zaq (l[kz]'hk')=tv9;have fs9:=fs8.over ht9 z9;obtain⟨o0,o1,o2,o3,o4⟩:=fs9.pp.facts;obtain⟨b0,b1,b2,b3,b4⟩:=fs9.pr.facts;have v0:=fs9.pr.free 0;have v1:=fs9.pr.free 1;have v2:=fs9.pr.free 2;have v3:=fs9.pr.free 3;have v4:=fs9.pr.free 4;have hpr9:=fs9.hPR;have hpr8:=Ne.symm fs9.hPR)))
     refine bodyPost_ret (v:=Zid ⟨ts,0,⟨#[]⟩,p,.slice kad js.length kcp⟩) (by simp[results,results150,go_sem,b0,b1,b2,b3,b4]) rfl ?_
     rw[hRR.out]
     exact Zrt fs fs9 (Zaa.trans (Zaa.of_below hb8) ht9) rfl hpre hrep (Zgu fs.pr (by decide)) (by omega)
    ·-- C
     have hRS:Aside (Rr=Zor es (Znh f (d+1) (if sn<0 then sn else sn-js.length) (pE (pL f) (d+1) (Zan l kz)))):=by
      show _=_
      rw[hR,htc,Znv (by omega) (fun _=>hcls)]
      rw[if_pos hneg]
     have IHf:=IH f (by omega)
     have hm2:0≤sn→(js.length:Int)+1≤sn:=by omega
     have hFS:Aside (FS base rb tb cap l fv (.slice vad ps.length vcap) ps w w.heap.size PB ts ⟨#[]⟩ p wr kad kcp js kz (d+1) 0 a pad pcp ps'):=fs
     have hRP:Aside (Zby wr (fun g=>w.heap.size≤g∧some g≠(Value.slice pad ps'.length pcp).ownBlock∧some g≠(Value.slice kad js.length kcp).ownBlock∧g≠PB) ps' ps.length es js):=hrep
     have F1:Aside ((Zan l kz).length≤f+1):=hf1
     have PP:Aside (ps <+: ps'):=hpre
     have hkc9:((Zba (l[kz]'hk').1.k)==41)=false:=Zl2 fun e=>hcls ((Zga _).1 e)
     have cn9:=Zbf fs.rp.z
     have hcv9:Zaq (l[kz]'hk')=.agg #[.int .u8 (Zba (l[kz]'hk').1.k),.string (l[kz]'hk').2,.int .i64 (((l[kz]'hk').1.at_:Nat):Int)]:=rfl
     rw[hcv9] at cn9
     generalize Zba (l[kz]'hk').1.k=tk9 at *
     generalize (l[kz]'hk').2=ts9 at *
     generalize (l[kz]'hk').1.at_=ta9 at *
     clear hR htc hf1 hm hrep hcls hcv9
     go_wp2_with (first
      |(go_at_call 56;go_loud (refine cn9.mono ?_;rintro r w8 ⟨rfl,hb8⟩;have fs8:=fs.below hb8;have sz8:=hb8.size))
      |(go_at_call 99;go_loud (refine (Zof IHf fs8.rp (by omega) (by have:=F1.out;omega)).mono ?_;rintro r w2 ⟨k2,d2,e2,a2,qad,qcp,qs,rfl,ht2,rp2,hlen2,mv2,H2⟩;have pp2:=fs8.pp.touch ht2 (by rintro (g | g);(exact absurd g (by have:=fs.hP;have:=fs.hw;omega));(exact fs.nP g));obtain⟨o0,o1,o2,o3,o4⟩:=pp2.facts;have ko2:=fs8.kept2 ht2))
      |(at_builtin;go_loud (obtain⟨i0,hi,hz0,hz1,hz2⟩:=info_parts Tryz.infoIntR;refine wpList_append_own_at _ rfl _ _ 31 rfl w.heap.size 3 i0 _ 1 8 underlying31 hi hz0 hz1 hz2 rfl (by decide) _ _ _ rfl (ko2.alloc _) ⟨w2.heap.size,0,none⟩ 1 1 [.int .i64 ((ps'.length:Nat):Int)] rfl rfl (cell_one_new _ _ _) (fun x hx=>by simp at hx;subst hx;rfl) (by unfold maxLen;omega) (by omega) (by have:=ht2.size;simp;omega) ?_;intro v' w3 own3 hg3 hnil3 hat3;clear hi hz0 hz1 hz2;obtain⟨kad2,kcp2,rfl⟩:=Zaf own3;have KID:=fs8.kid ht2 rp2 hlen2 mv2 own3 hg3 hat3;obtain⟨s0,s1,s2,s3,s4⟩:=KID.2.1.facts;have u4:=KID.2.1.free 4)))
     have NX:Aside _:=Zot.next (m:=sn) (B0:=B0) (G:=G) (Rr:=Rr) fs8 KID.1 KID.2.2.1 KID.2.2.2.1 KID.2.2.2.2 mv2 ht2.size PP.out (by omega) (by omega) (Zby.map (lo:=ps.length) (fun i q _ hq=>hq) (Nat.le_refl _) (fun sl n vs hr=>Zai hr hb8) hRP.out) F1.out hf2 hm2 hRS.out H2.out
     obtain⟨gh,hgh,hfl⟩:=NX.out
     go_roundg gh
     case measure=>exact hgh
     case rel=>(first | exact hfl | (have e:((js++[ps'.length]).length:Int)=(js.length:Int)+1:=(by simp);rw[e] at hfl;exact hfl))
   ·rw[if_neg hneg] at hR
    by_cases hij:(js.length:Int)=sn
    ·by_cases hcls:(l[kz]'hk').1.k=.cls
     ·-- B1
      have hRR:Hid (Rr=.ok es (Zan l (kz+1))):=by
       show _=_
       rw[hR,htc,Zgv (Or.inl (by omega)),if_pos hcls]
       simp[Zor]
      have hn9:=hwf.more kz hk' (by rw[hcls];decide) (by rw[hcls];decide)
      have hkc9:Zba (l[kz]'hk').1.k=41:=by rw[hcls];rfl
      clear hR htc hf1 hm
      go_wp2_with (go_at_call 97;go_loud (refine (Zh2 fs.rp.z hkc9 hn9).mono ?_;rintro r w9 ⟨rfl,ht9,z9⟩;generalize Zaq (l[kz]'hk')=tv9;have fs9:=fs.over ht9 z9;obtain⟨o0,o1,o2,o3,o4⟩:=fs9.pp.facts;obtain⟨b0,b1,b2,b3,b4⟩:=fs9.pr.facts;have v0:=fs9.pr.free 0;have v1:=fs9.pr.free 1;have v2:=fs9.pr.free 2;have v3:=fs9.pr.free 3;have v4:=fs9.pr.free 4;have hpr9:=fs9.hPR;have hpr8:=Ne.symm fs9.hPR))
      refine bodyPost_ret (v:=Zid ⟨ts,0,⟨#[]⟩,p,.slice kad js.length kcp⟩) (by simp[results,results150,go_sem,b0,b1,b2,b3,b4]) rfl ?_
      rw[hRR.out]
      exact Zrt fs fs9 ht9 rfl hpre hrep (Zgu fs.pr (by decide)) (by omega)
     ·-- B2
      have hRR:Hid (Rr=.err 2 (l[kz]'hk').1.at_):=by
       show _=_
       rw[hR,htc,Zgv (Or.inl (by omega)),if_neg hcls]
       rfl
      have hkc9:Zba (l[kz]'hk').1.k≠41:=fun e=>hcls ((Zga _).1 e)
      clear hR htc hf1 hm
      go_wp2_with (go_at_call 97;go_loud (refine (Zge fs.rp.z 41 ⟨#[]⟩ hkc9).mono ?_;rintro r w9 ⟨rfl,ht9,z9⟩;generalize Zaq (l[kz]'hk')=tv9;have fs9:=fs.over ht9 z9;obtain⟨o0,o1,o2,o3,o4⟩:=fs9.pp.facts;obtain⟨b0,b1,b2,b3,b4⟩:=fs9.pr.facts;have v0:=fs9.pr.free 0;have v1:=fs9.pr.free 1;have v2:=fs9.pr.free 2;have v3:=fs9.pr.free 3;have v4:=fs9.pr.free 4;have hpr9:=fs9.hPR;have hpr8:=Ne.symm fs9.hPR))
      refine bodyPost_ret (v:=Zid ⟨ts,0,⟨#[]⟩,p,.slice kad js.length kcp⟩) (by simp[results,results150,go_sem,b0,b1,b2,b3,b4]) rfl ?_
      rw[hRR.out]
      exact Zi7 fs9 (by decide)
    ·-- D
     have hRS:Aside (Rr=Zor es (Znh f (d+1) (if sn<0 then sn else sn-js.length) (pE (pL f) (d+1) (Zan l kz)))):=by
      show _=_
      rw[hR,htc,Znv (by omega) (fun h=>absurd h (by have:=hm (by omega);omega))]
      rw[if_neg hneg]
     have IHf:=IH f (by omega)
     have hm2:0≤sn→(js.length:Int)+1≤sn:=by intro _;have:=hm (by omega);omega
     have hFS:Aside (FS base rb tb cap l fv (.slice vad ps.length vcap) ps w w.heap.size PB ts ⟨#[]⟩ p wr kad kcp js kz (d+1) 0 a pad pcp ps'):=fs
     have hRP:Aside (Zby wr (fun g=>w.heap.size≤g∧some g≠(Value.slice pad ps'.length pcp).ownBlock∧some g≠(Value.slice kad js.length kcp).ownBlock∧g≠PB) ps' ps.length es js):=hrep
     have F1:Aside ((Zan l kz).length≤f+1):=hf1
     have PP:Aside (ps <+: ps'):=hpre
     clear hR htc hf1 hm hrep
     go_wp2_with (first
      |(go_at_call 99;go_loud (refine (Zof IHf fs.rp (by omega) (by have:=F1.out;omega)).mono ?_;rintro r w2 ⟨k2,d2,e2,a2,qad,qcp,qs,rfl,ht2,rp2,hlen2,mv2,H2⟩;have pp2:=fs.pp.touch ht2 (by rintro (g | g);(exact absurd g (by have:=fs.hP;have:=fs.hw;omega));(exact fs.nP g));obtain⟨o0,o1,o2,o3,o4⟩:=pp2.facts;have ko2:=fs.kept2 ht2))
      |(at_builtin;go_loud (obtain⟨i0,hi,hz0,hz1,hz2⟩:=info_parts Tryz.infoIntR;refine wpList_append_own_at _ rfl _ _ 31 rfl w.heap.size 3 i0 _ 1 8 underlying31 hi hz0 hz1 hz2 rfl (by decide) _ _ _ rfl (ko2.alloc _) ⟨w2.heap.size,0,none⟩ 1 1 [.int .i64 ((ps'.length:Nat):Int)] rfl rfl (cell_one_new _ _ _) (fun x hx=>by simp at hx;subst hx;rfl) (by unfold maxLen;omega) (by omega) (by have:=ht2.size;simp;omega) ?_;intro v' w3 own3 hg3 hnil3 hat3;clear hi hz0 hz1 hz2;obtain⟨kad2,kcp2,rfl⟩:=Zaf own3;have KID:=fs.kid ht2 rp2 hlen2 mv2 own3 hg3 hat3;obtain⟨s0,s1,s2,s3,s4⟩:=KID.2.1.facts;have u4:=KID.2.1.free 4)))
     have NX:Aside _:=Zot.next (m:=sn) (B0:=B0) (G:=G) (Rr:=Rr) fs KID.1 KID.2.2.1 KID.2.2.2.1 KID.2.2.2.2 mv2 ht2.size PP.out (by omega) (by omega) hRP.out F1.out hf2 hm2 hRS.out H2.out
     obtain⟨gh,hgh,hfl⟩:=NX.out
     go_roundg gh
     case measure=>exact hgh
     case rel=>(first | exact hfl | (have e:((js++[ps'.length]).length:Int)=(js.length:Int)+1:=(by simp);rw[e] at hfl;exact hfl))
  ·-- E
   have hRR:Hid (Rr=.err e' a'):=hR
   clear hR
   go_wp2_with (go_at_call 97;go_loud (refine (Zb8 fs.rp.z he 41 ⟨#[]⟩).mono ?_;rintro r w9 ⟨rfl,ht9,z9⟩;generalize Zaq (l[kz]'hk')=tv9;have fs9:=fs.over ht9 z9;obtain⟨o0,o1,o2,o3,o4⟩:=fs9.pp.facts;obtain⟨b0,b1,b2,b3,b4⟩:=fs9.pr.facts;have v0:=fs9.pr.free 0;have v1:=fs9.pr.free 1;have v2:=fs9.pr.free 2;have v3:=fs9.pr.free 3;have v4:=fs9.pr.free 4;have hpr9:=fs9.hPR;have hpr8:=Ne.symm fs9.hPR))
   refine bodyPost_ret (v:=Zid ⟨ts,0,⟨#[]⟩,p,.slice kad js.length kcp⟩) (by simp[results,results150,go_sem,b0,b1,b2,b3,b4]) rfl ?_
   rw[hRR.out]
   exact Zi7 fs9 he
theorem Z2f (h:Rp w base rb tb cap l fv pv k d 0 a ps)(hwf:Zfr l)(_hsz:ps.length+(l.length-k)≤3001)(hct:(l[k]'h.z.hk).1.k=.opn)(_hk1:k+1<l.length)(hd2:d=16):
  Calls prog 150 #[.pointer (some ⟨rb,0,none⟩)] w (Zmd (.err 3 (l[k]'h.z.hk).1.at_) base rb tb cap l fv pv k d a ps w):=by
 have hlt:=h.z.lt
 have hl:=h.z.hl
 have hne1:=Nat.ne_of_lt hlt.1
 have hne2:=Nat.ne_of_lt hlt.2
 have hk:=h.z.hk
 have hkc0:Zba (l[k]'hk).1.k=40:=by rw[hct];rfl
 obtain⟨vad,vcap,hpv⟩:=Zaf h.own
 subst hpv
 have r0:=h.alloc Zl5
 have cn1:∀(X:World) (pv:Value) (d e a:Nat),Rz X rb tb cap l fv pv k d e a→Calls prog 56 #[.pointer (some ⟨rb,0,none⟩)] X fun r w'=>r=.returned (Zaq (l[k]'hk))∧Below X.heap.size X w':=fun X pv d e a hz=>Zbf hz
 have hcv:Zaq (l[k]'hk)=.agg #[.int .u8 40,.string (l[k]'hk).2,.int .i64 (((l[k]'hk).1.at_:Nat):Int)]:=by simp[hct,Zba]
 have cf:=Zc2 (l[k]'hk).2
 have hsh:=hwf.noshape k hk (by rw[hct];decide)
 rw[hsh] at cf
 clear hsh
 subst hd2
 have ov2:∀(X:World) (pv:Value) (d e a:Nat),Rz X rb tb cap l fv pv k d e a→e≠0→Calls prog 97 #[.pointer (some ⟨rb,0,none⟩),.int .u8 97,.string ⟨#[]⟩] X fun r w'=>(∃v,r=.returned v)∧Zaa (·=rb) X w'∧Rz w' rb tb cap l fv pv k d e a:=fun X pv d e a hz he=>(Zb8 hz he 97 ⟨#[]⟩).mono fun r w' ⟨h1,h2⟩=>⟨⟨_,h1⟩,h2⟩
 have ov1:=Z1c r0.z hkc0
 generalize hts:(l[k]'hk).2=ts at *
 generalize hpp:(l[k]'hk).1.at_=p at *
 generalize Zaq (l[k]'hk)=tv1 at *
 subst hcv
 go_enter func150,ntmps150
 go_wp2_with (first
  |(go_at_call 97;go_loud (refine (ov2 _ _ _ _ _ r2.z (by decide)).mono ?_;rintro r w4 ⟨⟨tv4,rfl⟩,ht4,z4⟩;have r4:=r2.touch ht4 z4;have g4:=g2.touch ht4 (Ne.symm ne3);obtain⟨s0,s1,s2⟩:=g4.facts;have sz4:=ht4.size;(try simp at sz4);clear q0 q1 q2;have T04:Zaa (·=rb) (w.alloc Zl5) w4:=((ht1.trans (Zaa.of_below hb2)).alloc _).trans ht4;have fs0:=FS.start (op:=ts) (p:=p) h T04 r4;obtain⟨x0,x1,x2,x3,x4,x5,x6⟩:=fs0.rp.z.cells))
  |(go_at_call 147;refine (Ze2 r2.z (by decide) _ _).mono ?_;rintro r w9 ⟨rfl,rfl⟩)
  |(go_at_call 148;refine (cf _).mono ?_;rintro r w9 ⟨rfl,rfl⟩;simp only[Zgg])
  |(go_at_call 56;go_loud (refine (cn1 _ _ _ _ _ z1).mono ?_;rintro r w2 ⟨rfl,hb2⟩;have r2:=(r1.below hb2).alloc (Zc3 40 ts p);have g2:=Za9 w2 40 ts p;obtain⟨q0,q1,q2⟩:=g2.facts;have sz1:=ht1.size;have sz2:=hb2.size;simp at sz1;have ne3:rb≠w2.heap.size:=(by omega)))
  |(go_at_call 97;go_loud (refine ov1.mono ?_;rintro r w1 ⟨rfl,ht1,z1⟩;have r1:=r0.touch ht1 z1)))
 generalize hBe:ps.length+(l.length-k)-2=B0 at *
 generalize hPB:w4.heap.size=PB at *
 generalize w4.alloc (Zrg ts p)=W at *
 clear x0 x1 x2 x3 x4 x5 x6 T04 r4 r2 r1 r0 ht1 ht4 hb2 z1 z4 g2 g4 s0 s1 s2 cn1 cf ov1 ov2 sz1 sz2 sz4 ne3
 generalize hRr:(Res.err 3 p:Res (List Ex))=Rr at *
 obtain⟨G,_⟩:∃G:Nat,True:=⟨0,trivial⟩
 go_loopg [9] (0) (fun gh iv wr=>gh=0∧Zot base rb tb cap l fv (.slice vad ps.length vcap) ps w w.heap.size PB ts ⟨#[]⟩ p 17 a B0 G 0 Rr gh iv wr)
 case atStart=>exact⟨rfl,none,0,[],_,_,_,_,vad,vcap,ps,rfl,fs0,(by rw[←hRr];exact Or.inr ⟨by decide,rfl,rfl⟩)⟩
 case round =>
  obtain⟨hgh0,kad,kcp,js,kz,d',e',a',pad,pcp,ps',rfl,fs,hst⟩:=hrel
  have hk':=fs.rp.z.hk
  have hl3:=fs.rp.z.hl
  obtain⟨c0,c1,c2,c3,c4,c5,c6⟩:=fs.rp.z.cells
  rcases hst with ⟨_,hgh,_⟩ | ⟨he,_,hR⟩
  ·omega
  ·-- E
   have hRR:Hid (Rr=.err e' a'):=hR
   clear hR
   go_wp2_with (go_at_call 97;go_loud (refine (Zb8 fs.rp.z he 41 ⟨#[]⟩).mono ?_;rintro r w9 ⟨rfl,ht9,z9⟩;generalize Zaq (l[kz]'hk')=tv9;have fs9:=fs.over ht9 z9;obtain⟨o0,o1,o2,o3,o4⟩:=fs9.pp.facts;obtain⟨b0,b1,b2,b3,b4⟩:=fs9.pr.facts;have v0:=fs9.pr.free 0;have v1:=fs9.pr.free 1;have v2:=fs9.pr.free 2;have v3:=fs9.pr.free 3;have v4:=fs9.pr.free 4;have hpr9:=fs9.hPR;have hpr8:=Ne.symm fs9.hPR))
   refine bodyPost_ret (v:=Zid ⟨ts,0,⟨#[]⟩,p,.slice kad js.length kcp⟩) (by simp[results,results150,go_sem,b0,b1,b2,b3,b4]) rfl ?_
   obtain⟨rfl,rfl⟩:3=e'∧p=a':=by have:=hRr.trans hRR.out;simpa using this
   exact Zi7 fs9 he
theorem Zoe (h:Rp w base rb tb cap l fv pv k d 0 a ps)(_hwf:Zfr l)(_hsz:ps.length+(l.length-k)≤3001)(hct:(l[k]'h.z.hk).1.k=.opn)(hk1:k+1<l.length)(hd2:d<16)(hsh:Za3 (l[k+1]'hk1).2.data.toList=none):
  Calls prog 150 #[.pointer (some ⟨rb,0,none⟩)] w (Zmd (.err 2 (l[k+1]'hk1).1.at_) base rb tb cap l fv pv k d a ps w):=by
 have hlt:=h.z.lt
 have hl:=h.z.hl
 have hne1:=Nat.ne_of_lt hlt.1
 have hne2:=Nat.ne_of_lt hlt.2
 have hk:=h.z.hk
 have hkc0:Zba (l[k]'hk).1.k=40:=by rw[hct];rfl
 obtain⟨vad,vcap,hpv⟩:=Zaf h.own
 subst hpv
 have r0:=h.alloc Zl5
 have cn1:∀(X:World) (pv:Value) (d e a:Nat),Rz X rb tb cap l fv pv (k+1) d e a→Calls prog 56 #[.pointer (some ⟨rb,0,none⟩)] X fun r w'=>r=.returned (Zaq (l[(k+1)]'hk1))∧Below X.heap.size X w':=fun X pv d e a hz=>Zbf hz
 have hcv:Zaq (l[(k+1)]'hk1)=.agg #[.int .u8 (Zba (l[k+1]'hk1).1.k),.string (l[(k+1)]'hk1).2,.int .i64 (((l[(k+1)]'hk1).1.at_:Nat):Int)]:=by rfl
 have cf:=Zc2 (l[(k+1)]'hk1).2
 rw[hsh] at cf
 clear hsh
 have ov2:∀(X:World) (pv:Value) (d e a:Nat),Rz X rb tb cap l fv pv (k+1) d e a→e≠0→Calls prog 97 #[.pointer (some ⟨rb,0,none⟩),.int .u8 97,.string ⟨#[]⟩] X fun r w'=>(∃v,r=.returned v)∧Zaa (·=rb) X w'∧Rz w' rb tb cap l fv pv (k+1) d e a:=fun X pv d e a hz he=>(Zb8 hz he 97 ⟨#[]⟩).mono fun r w' ⟨h1,h2⟩=>⟨⟨_,h1⟩,h2⟩
 have ov1:=Zjy r0.z hkc0 hd2 hk1
 generalize Zba (l[k+1]'hk1).1.k=c at *
 generalize hts:(l[k+1]'hk1).2=ts at *
 generalize hpp:(l[k+1]'hk1).1.at_=p at *
 generalize Zaq (l[k+1]'hk1)=tv1 at *
 subst hcv
 generalize Zaq (l[k]'hk)=tv0 at *
 go_enter func150,ntmps150
 go_wp2_with (first
  |(go_at_call 97;go_loud (refine (ov2 _ _ _ _ _ r3.z (by decide)).mono ?_;rintro r w4 ⟨⟨tv4,rfl⟩,ht4,z4⟩;have r4:=r3.touch ht4 z4;have g4:=g3.touch ht4 (Ne.symm ne3);obtain⟨s0,s1,s2⟩:=g4.facts;have sz4:=ht4.size;(try simp at sz4);clear q0 q1 q2;have T04:Zaa (·=rb) (w.alloc Zl5) w4:=(((ht1.trans (Zaa.of_below hb2)).alloc _).trans ht3).trans ht4;have fs0:=FS.start (op:=ts) (p:=p) h T04 r4;obtain⟨x0,x1,x2,x3,x4,x5,x6⟩:=fs0.rp.z.cells))
  |(go_at_call 147;go_loud (refine (Zfb r2.z p).mono ?_;rintro r w3 ⟨rfl,ht3,z3⟩;have r3:=r2.touch ht3 z3;have g3:=g2.touch ht3 (Ne.symm ne3);have sz3:=ht3.size;simp at sz3))
  |(go_at_call 148;refine (cf _).mono ?_;rintro r w9 ⟨rfl,rfl⟩;simp only[Zgg])
  |(go_at_call 56;go_loud (refine (cn1 _ _ _ _ _ z1).mono ?_;rintro r w2 ⟨rfl,hb2⟩;have r2:=(r1.below hb2).alloc (Zc3 c ts p);have g2:=Za9 w2 c ts p;obtain⟨q0,q1,q2⟩:=g2.facts;have sz1:=ht1.size;have sz2:=hb2.size;simp at sz1;have ne3:rb≠w2.heap.size:=(by omega)))
  |(go_at_call 97;go_loud (refine ov1.mono ?_;rintro r w1 ⟨rfl,ht1,z1⟩;have r1:=r0.touch ht1 z1)))
 generalize hBe:ps.length+(l.length-k)-2=B0 at *
 generalize hPB:w4.heap.size=PB at *
 generalize w4.alloc (Zrg ts p)=W at *
 clear g3 r3 ht3 z3 sz3 x0 x1 x2 x3 x4 x5 x6 T04 r4 r2 r1 r0 ht1 ht4 hb2 z1 z4 g2 g4 s0 s1 s2 cn1 cf ov1 ov2 sz1 sz2 sz4 ne3
 generalize hRr:(Res.err 2 p:Res (List Ex))=Rr at *
 obtain⟨G,_⟩:∃G:Nat,True:=⟨0,trivial⟩
 go_loopg [9] (0) (fun gh iv wr=>gh=0∧Zot base rb tb cap l fv (.slice vad ps.length vcap) ps w w.heap.size PB ts ⟨#[]⟩ p (d+1) a B0 G 0 Rr gh iv wr)
 case atStart=>exact⟨rfl,none,0,[],_,_,_,_,vad,vcap,ps,rfl,fs0,(by rw[←hRr];exact Or.inr ⟨by decide,rfl,rfl⟩)⟩
 case round =>
  obtain⟨hgh0,kad,kcp,js,kz,d',e',a',pad,pcp,ps',rfl,fs,hst⟩:=hrel
  have hk':=fs.rp.z.hk
  have hl3:=fs.rp.z.hl
  obtain⟨c0,c1,c2,c3,c4,c5,c6⟩:=fs.rp.z.cells
  rcases hst with ⟨_,hgh,_⟩ | ⟨he,_,hR⟩
  ·omega
  ·-- E
   have hRR:Hid (Rr=.err e' a'):=hR
   clear hR
   go_wp2_with (go_at_call 97;go_loud (refine (Zb8 fs.rp.z he 41 ⟨#[]⟩).mono ?_;rintro r w9 ⟨rfl,ht9,z9⟩;generalize Zaq (l[kz]'hk')=tv9;have fs9:=fs.over ht9 z9;obtain⟨o0,o1,o2,o3,o4⟩:=fs9.pp.facts;obtain⟨b0,b1,b2,b3,b4⟩:=fs9.pr.facts;have v0:=fs9.pr.free 0;have v1:=fs9.pr.free 1;have v2:=fs9.pr.free 2;have v3:=fs9.pr.free 3;have v4:=fs9.pr.free 4;have hpr9:=fs9.hPR;have hpr8:=Ne.symm fs9.hPR))
   refine bodyPost_ret (v:=Zid ⟨ts,0,⟨#[]⟩,p,.slice kad js.length kcp⟩) (by simp[results,results150,go_sem,b0,b1,b2,b3,b4]) rfl ?_
   obtain⟨rfl,rfl⟩:2=e'∧p=a':=by have:=hRr.trans hRR.out;simpa using this
   exact Zi7 fs9 he
theorem Zvs (h:Rp w base rb tb cap l fv pv k d 0 a ps)(hwf:Zfr l)(_hsz:ps.length+(l.length-k)≤3001)(hct:(l[k]'h.z.hk).1.k=.opn)(hk1:k+1<l.length)(hd2:d<16)(hw1:(l[k+1]'hk1).1.k=.word)(sn:Int)(hsh:Za3 (l[k+1]'hk1).2.data.toList=some (true,sn))(hk2:k+1+1<l.length)(hnm:Zbg (l[k+1+1]'hk2).1=false):
  Calls prog 150 #[.pointer (some ⟨rb,0,none⟩)] w (Zmd (.err 2 (l[k+1+1]'hk2).1.at_) base rb tb cap l fv pv k d a ps w):=by
 have hlt:=h.z.lt
 have hl:=h.z.hl
 have hne1:=Nat.ne_of_lt hlt.1
 have hne2:=Nat.ne_of_lt hlt.2
 have hk:=h.z.hk
 have hkc0:Zba (l[k]'hk).1.k=40:=by rw[hct];rfl
 obtain⟨vad,vcap,hpv⟩:=Zaf h.own
 subst hpv
 have r0:=h.alloc Zl5
 have cn1:∀(X:World) (pv:Value) (d e a:Nat),Rz X rb tb cap l fv pv (k+1) d e a→Calls prog 56 #[.pointer (some ⟨rb,0,none⟩)] X fun r w'=>r=.returned (Zaq (l[(k+1)]'hk1))∧Below X.heap.size X w':=fun X pv d e a hz=>Zbf hz
 have hcv:Zaq (l[(k+1)]'hk1)=.agg #[.int .u8 97,.string (l[(k+1)]'hk1).2,.int .i64 (((l[(k+1)]'hk1).1.at_:Nat):Int)]:=by simp[hw1,Zba]
 have cf:=Zc2 (l[(k+1)]'hk1).2
 rw[hsh] at cf
 have hn2:=hwf.more (k+1) hk1 (by rw[hw1];decide) (by rw[hw1];decide)
 have ov2:∀(X:World) (pv:Value) (d a:Nat),Rz X rb tb cap l fv pv (k+1) d 0 a→Calls prog 97 #[.pointer (some ⟨rb,0,none⟩),.int .u8 97,.string ⟨#[]⟩] X fun r w'=>(∃v,r=.returned v)∧Zaa (·=rb) X w'∧Rz w' rb tb cap l fv pv (k+1+1) d 0 a:=fun X pv d a hz=>(Zjw hz (by rw[hw1];rfl) hn2).mono fun r w' ⟨h1,h2⟩=>⟨⟨_,h1⟩,h2⟩
 have ov1:=Zjy r0.z hkc0 hd2 hk1
 have hb1w:=hwf.tx _ (List.getElem_mem hk1)
 have hsb:=Zem hsh
 have htx2:=hwf.tx _ (List.getElem_mem hk2)
 have nm1:∀(X:World) (pv:Value) (d a:Nat),Rz X rb tb cap l fv pv (k+1+1) d 0 a→Calls prog 98 #[.pointer (some ⟨rb,0,none⟩)] X fun r w'=>r=.returned (Zaq (l[k+1+1]'hk2))∧Zaa (·=rb) X w'∧Rz w' rb tb cap l fv pv (k+1+1) d 2 (l[k+1+1]'hk2).1.at_:=fun X pv d a hz=>Zqv hz hwf.tx hnm
 have hcv2:Zaq (l[k+1+1]'hk2)=.agg #[.int .u8 (Zba (l[k+1+1]'hk2).1.k),.string (l[k+1+1]'hk2).2,.int .i64 (((l[k+1+1]'hk2).1.at_:Nat):Int)]:=rfl
 clear htx2 hb1w
 generalize hts:(l[k+1]'hk1).2=ts at *
 generalize hpp:(l[k+1]'hk1).1.at_=p at *
 generalize Zaq (l[k+1]'hk1)=tv1 at *
 subst hcv
 generalize Zaq (l[k]'hk)=tv0 at *
 generalize Zba (l[k+1+1]'hk2).1.k=c2 at *
 generalize hts2:(l[k+1+1]'hk2).2=ts2 at *
 generalize hpp2:(l[k+1+1]'hk2).1.at_=p2 at *
 generalize Zaq (l[k+1+1]'hk2)=tv2 at *
 subst hcv2
 go_enter func150,ntmps150
 go_wp2_with (first
  |(go_at_call 98;go_loud (refine (nm1 _ _ _ _ fs0.rp.z).mono ?_;rintro r w5 ⟨rfl,ht5,z5⟩;have fs5:=(fs0.over ht5 z5).below (Zab w5 (Zc3 c2 ts2 p2));obtain⟨n0,n1,n2,n3,n4⟩:=fs5.pp.facts;have u2:=fs5.pp.free 2;have u3:=fs5.pp.free 3;obtain⟨j0,j1,j2⟩:=(Za9 w5 c2 ts2 p2).facts;have sz5:=ht5.size;simp at sz5;have ne8:w4.heap.size≠w5.heap.size:=(by omega);have ne9:w5.heap.size≠w4.heap.size:=(by omega)))
  |(go_at_call 97;go_loud (refine (ov2 _ _ _ _ r2.z).mono ?_;rintro r w4 ⟨⟨tv4,rfl⟩,ht4,z4⟩;have r4:=r2.touch ht4 z4;have g4:=g2.touch ht4 (Ne.symm ne3);obtain⟨s0,s1,s2⟩:=g4.facts;have sz4:=ht4.size;(try simp at sz4);clear q0 q1 q2;have T04:Zaa (·=rb) (w.alloc Zl5) w4:=((ht1.trans (Zaa.of_below hb2)).alloc _).trans ht4;have fs0:=FS.start (op:=ts) (p:=p) h T04 r4;obtain⟨x0,x1,x2,x3,x4,x5,x6⟩:=fs0.rp.z.cells))
  |(go_at_call 148;refine (cf _).mono ?_;rintro r w9 ⟨rfl,rfl⟩;simp only[Zgg])
  |(go_at_call 56;go_loud (refine (cn1 _ _ _ _ _ z1).mono ?_;rintro r w2 ⟨rfl,hb2⟩;have r2:=(r1.below hb2).alloc (Zc3 97 ts p);have g2:=Za9 w2 97 ts p;obtain⟨q0,q1,q2⟩:=g2.facts;have sz1:=ht1.size;have sz2:=hb2.size;simp at sz1;have ne3:rb≠w2.heap.size:=(by omega)))
  |(go_at_call 97;go_loud (refine ov1.mono ?_;rintro r w1 ⟨rfl,ht1,z1⟩;have r1:=r0.touch ht1 z1)))
 generalize hBe:ps.length+(l.length-k)-2=B0 at *
 have fs6:=fs5.name ts2 p2
 clear fs0 fs5 ht5 z5 n0 n1 n2 n3 n4 u2 u3 j0 j1 j2 sz5 ne8 ne9 nm1
 generalize hPB:w4.heap.size=PB at *
 generalize ((w5.alloc (Zc3 c2 ts2 p2)).setCell ⟨PB,2,none⟩ (.string ts2)).setCell ⟨PB,3,none⟩ (.int .i64 ((p2:Nat):Int))=W at *
 have fs0:=fs6
 clear fs6
 clear x0 x1 x2 x3 x4 x5 x6 T04 r4 r2 r1 r0 ht1 ht4 hb2 z1 z4 g2 g4 s0 s1 s2 cn1 cf ov1 ov2 sz1 sz2 sz4 ne3
 generalize hRr:(Res.err 2 p2:Res (List Ex))=Rr at *
 obtain⟨G,_⟩:∃G:Nat,True:=⟨0,trivial⟩
 go_loopg [9] (0) (fun gh iv wr=>gh=0∧Zot base rb tb cap l fv (.slice vad ps.length vcap) ps w w.heap.size PB ts ts2 p2 (d+1) a B0 G sn Rr gh iv wr)
 case atStart=>exact⟨rfl,none,0,[],_,_,_,_,vad,vcap,ps,rfl,fs0,(by rw[←hRr];exact Or.inr ⟨by decide,rfl,rfl⟩)⟩
 case round =>
  obtain⟨hgh0,kad,kcp,js,kz,d',e',a',pad,pcp,ps',rfl,fs,hst⟩:=hrel
  have hk':=fs.rp.z.hk
  have hl3:=fs.rp.z.hl
  obtain⟨c0,c1,c2,c3,c4,c5,c6⟩:=fs.rp.z.cells
  rcases hst with ⟨_,hgh,_⟩ | ⟨he,_,hR⟩
  ·omega
  ·-- E
   have hRR:Hid (Rr=.err e' a'):=hR
   clear hR
   go_wp2_with (go_at_call 97;go_loud (refine (Zb8 fs.rp.z he 41 ⟨#[]⟩).mono ?_;rintro r w9 ⟨rfl,ht9,z9⟩;generalize Zaq (l[kz]'hk')=tv9;have fs9:=fs.over ht9 z9;obtain⟨o0,o1,o2,o3,o4⟩:=fs9.pp.facts;obtain⟨b0,b1,b2,b3,b4⟩:=fs9.pr.facts;have v0:=fs9.pr.free 0;have v1:=fs9.pr.free 1;have v2:=fs9.pr.free 2;have v3:=fs9.pr.free 3;have v4:=fs9.pr.free 4;have hpr9:=fs9.hPR;have hpr8:=Ne.symm fs9.hPR))
   refine bodyPost_ret (v:=Zid ⟨ts,0,ts2,p2,.slice kad js.length kcp⟩) (by simp[results,results150,go_sem,b0,b1,b2,b3,b4]) rfl ?_
   obtain⟨rfl,rfl⟩:2=e'∧p2=a':=by have:=hRr.trans hRR.out;simpa using this
   exact Zi7 fs9 he
theorem Zu3 (h:Rp w base rb tb cap l fv pv k d 0 a ps)(hwf:Zfr l)(hsz:ps.length+(l.length-k)≤3001)(hct:(l[k]'h.z.hk).1.k=.opn)(hk1:k+1<l.length)(hd2:d<16)(hw1:(l[k+1]'hk1).1.k=.word)(sn:Int)(hsh:Za3 (l[k+1]'hk1).2.data.toList=some (true,sn))(hk2:k+1+1<l.length)(hnm:Zbg (l[k+1+1]'hk2).1=true)(hk3:k+1+1+1<l.length)(G:Nat)(IH:∀g,g<G→ExDo base rb tb cap l fv a g)(hG:(Zan l (k+3)).length≤G):
  Calls prog 150 #[.pointer (some ⟨rb,0,none⟩)] w (Zmd (Zie (l[k+1]'hk1).1.body (l[k+1+1]'hk2).1.body (l[k+1+1]'hk2).1.at_ (pL G (d+1) sn (Zan l (k+3)))) base rb tb cap l fv pv k d a ps w):=by
 have hlt:=h.z.lt
 have hl:=h.z.hl
 have hne1:=Nat.ne_of_lt hlt.1
 have hne2:=Nat.ne_of_lt hlt.2
 have hk:=h.z.hk
 have hkc0:Zba (l[k]'hk).1.k=40:=by rw[hct];rfl
 obtain⟨vad,vcap,hpv⟩:=Zaf h.own
 subst hpv
 have r0:=h.alloc Zl5
 have cn1:∀(X:World) (pv:Value) (d e a:Nat),Rz X rb tb cap l fv pv (k+1) d e a→Calls prog 56 #[.pointer (some ⟨rb,0,none⟩)] X fun r w'=>r=.returned (Zaq (l[(k+1)]'hk1))∧Below X.heap.size X w':=fun X pv d e a hz=>Zbf hz
 have hcv:Zaq (l[(k+1)]'hk1)=.agg #[.int .u8 97,.string (l[(k+1)]'hk1).2,.int .i64 (((l[(k+1)]'hk1).1.at_:Nat):Int)]:=by simp[hw1,Zba]
 have cf:=Zc2 (l[(k+1)]'hk1).2
 rw[hsh] at cf
 have hn2:=hwf.more (k+1) hk1 (by rw[hw1];decide) (by rw[hw1];decide)
 have ov2:∀(X:World) (pv:Value) (d a:Nat),Rz X rb tb cap l fv pv (k+1) d 0 a→Calls prog 97 #[.pointer (some ⟨rb,0,none⟩),.int .u8 97,.string ⟨#[]⟩] X fun r w'=>(∃v,r=.returned v)∧Zaa (·=rb) X w'∧Rz w' rb tb cap l fv pv (k+1+1) d 0 a:=fun X pv d a hz=>(Zjw hz (by rw[hw1];rfl) hn2).mono fun r w' ⟨h1,h2⟩=>⟨⟨_,h1⟩,h2⟩
 have ov1:=Zjy r0.z hkc0 hd2 hk1
 have hb1w:=hwf.tx _ (List.getElem_mem hk1)
 have hsb:=Zem hsh
 have htx2:=hwf.tx _ (List.getElem_mem hk2)
 have nm1:∀(X:World) (pv:Value) (d a:Nat),Rz X rb tb cap l fv pv (k+1+1) d 0 a→Calls prog 98 #[.pointer (some ⟨rb,0,none⟩)] X fun r w'=>r=.returned (Zaq (l[k+1+1]'hk2))∧Zaa (·=rb) X w'∧Rz w' rb tb cap l fv pv (k+1+1+1) d 0 a:=fun X pv d a hz=>Zqu hz hwf.tx hnm hk3
 have hcv2:Zaq (l[k+1+1]'hk2)=.agg #[.int .u8 (Zba (l[k+1+1]'hk2).1.k),.string (l[k+1+1]'hk2).2,.int .i64 (((l[k+1+1]'hk2).1.at_:Nat):Int)]:=rfl
 have hres0:Zie (l[k+1]'hk1).1.body (l[k+1+1]'hk2).1.body (l[k+1+1]'hk2).1.at_ (pL G (d+1) sn (Zan l (k+3)))=Zie (l[k+1]'hk1).2.data.toList (l[k+1+1]'hk2).2.data.toList (l[k+1+1]'hk2).1.at_ (pL G (d+1) sn (Zan l (k+3))):=by rw[hb1w,htx2]
 rw[hres0]
 clear hres0 hb1w htx2
 generalize hts:(l[k+1]'hk1).2=ts at *
 generalize hpp:(l[k+1]'hk1).1.at_=p at *
 generalize Zaq (l[k+1]'hk1)=tv1 at *
 subst hcv
 generalize Zaq (l[k]'hk)=tv0 at *
 generalize Zba (l[k+1+1]'hk2).1.k=c2 at *
 generalize hts2:(l[k+1+1]'hk2).2=ts2 at *
 generalize hpp2:(l[k+1+1]'hk2).1.at_=p2 at *
 generalize Zaq (l[k+1+1]'hk2)=tv2 at *
 subst hcv2
 go_enter func150,ntmps150
 go_wp2_with (first
  |(go_at_call 98;go_loud (refine (nm1 _ _ _ _ fs0.rp.z).mono ?_;rintro r w5 ⟨rfl,ht5,z5⟩;have fs5:=(fs0.over ht5 z5).below (Zab w5 (Zc3 c2 ts2 p2));obtain⟨n0,n1,n2,n3,n4⟩:=fs5.pp.facts;have u2:=fs5.pp.free 2;have u3:=fs5.pp.free 3;obtain⟨j0,j1,j2⟩:=(Za9 w5 c2 ts2 p2).facts;have sz5:=ht5.size;simp at sz5;have ne8:w4.heap.size≠w5.heap.size:=(by omega);have ne9:w5.heap.size≠w4.heap.size:=(by omega)))
  |(go_at_call 97;go_loud (refine (ov2 _ _ _ _ r2.z).mono ?_;rintro r w4 ⟨⟨tv4,rfl⟩,ht4,z4⟩;have r4:=r2.touch ht4 z4;have g4:=g2.touch ht4 (Ne.symm ne3);obtain⟨s0,s1,s2⟩:=g4.facts;have sz4:=ht4.size;(try simp at sz4);clear q0 q1 q2;have T04:Zaa (·=rb) (w.alloc Zl5) w4:=((ht1.trans (Zaa.of_below hb2)).alloc _).trans ht4;have fs0:=FS.start (op:=ts) (p:=p) h T04 r4;obtain⟨x0,x1,x2,x3,x4,x5,x6⟩:=fs0.rp.z.cells))
  |(go_at_call 148;refine (cf _).mono ?_;rintro r w9 ⟨rfl,rfl⟩;simp only[Zgg])
  |(go_at_call 56;go_loud (refine (cn1 _ _ _ _ _ z1).mono ?_;rintro r w2 ⟨rfl,hb2⟩;have r2:=(r1.below hb2).alloc (Zc3 97 ts p);have g2:=Za9 w2 97 ts p;obtain⟨q0,q1,q2⟩:=g2.facts;have sz1:=ht1.size;have sz2:=hb2.size;simp at sz1;have ne3:rb≠w2.heap.size:=(by omega)))
  |(go_at_call 97;go_loud (refine ov1.mono ?_;rintro r w1 ⟨rfl,ht1,z1⟩;have r1:=r0.touch ht1 z1)))
 have hB0:ps.length+(l.length-(k+1+1+1))≤ps.length+(l.length-k)-2:=by omega
 generalize hBe:ps.length+(l.length-k)-2=B0 at *
 have fs6:=fs5.name ts2 p2
 clear fs0 fs5 ht5 z5 n0 n1 n2 n3 n4 u2 u3 j0 j1 j2 sz5 ne8 ne9 nm1
 generalize hPB:w4.heap.size=PB at *
 generalize ((w5.alloc (Zc3 c2 ts2 p2)).setCell ⟨PB,2,none⟩ (.string ts2)).setCell ⟨PB,3,none⟩ (.int .i64 ((p2:Nat):Int))=W at *
 have fs0:=fs6
 clear fs6
 clear x0 x1 x2 x3 x4 x5 x6 T04 r4 r2 r1 r0 ht1 ht4 hb2 z1 z4 g2 g4 s0 s1 s2 cn1 cf ov1 ov2 sz1 sz2 sz4 ne3
 generalize hRr:pL G (d+1) sn (Zan l (k+3))=Rr at *
 go_loopg [9] (l.length-(k+1+1+1)+1) (fun gh iv wr=>Zot base rb tb cap l fv (.slice vad ps.length vcap) ps w w.heap.size PB ts ts2 p2 (d+1) a B0 G sn Rr gh iv wr)
 case atStart=>exact⟨none,0,[],_,_,_,_,vad,vcap,ps,rfl,fs0,(by rw[←hRr];exact Or.inl ⟨rfl,rfl,rfl,rfl,List.prefix_rfl,by omega,by simp;omega,[],G,by rw[Zby],hG,Nat.le_refl _,by simp,by simp[Zw9]⟩)⟩
 case round =>
  obtain⟨kad,kcp,js,kz,d',e',a',pad,pcp,ps',rfl,fs,hst⟩:=hrel
  have hk':=fs.rp.z.hk
  have hl3:=fs.rp.z.hl
  obtain⟨c0,c1,c2,c3,c4,c5,c6⟩:=fs.rp.z.cells
  rcases hst with ⟨rfl,rfl,ha',rfl,hpre,hB,hj,es,f,hrep,hf1,hf2,hm,hR⟩ | ⟨he,rfl,hR⟩
  ·obtain rfl:=ha'.symm
   have hfp:0<f:=by rw[Zbv] at hf1;omega
   obtain⟨f,rfl⟩:∃f',f=f'+1:=⟨f-1,by omega⟩
   have htc:=Zbk hk'
   have hbase:=fs.ht.size
   by_cases hneg:sn<0
   ·rw[if_pos hneg] at hR
    have hnj:¬ ((js.length:Int)=sn):=by omega
    by_cases hcls:(l[kz]'hk').1.k=.cls
    ·-- A
     have hRR:Hid (Rr=.ok es (Zan l (kz+1))):=by
      show _=_
      rw[hR,htc,Zgv (Or.inr ⟨hneg,hcls⟩),if_pos hcls]
      simp[Zor]
     have hn9:=hwf.more kz hk' (by rw[hcls];decide) (by rw[hcls];decide)
     have hkc9:Zba (l[kz]'hk').1.k=41:=by rw[hcls];rfl
     have hcv9:Zaq (l[kz]'hk')=.agg #[.int .u8 41,.string (l[kz]'hk').2,.int .i64 (((l[kz]'hk').1.at_:Nat):Int)]:=by rw[←hkc9]
     have cn9:=Zbf fs.rp.z
     rw[hcv9] at cn9
     have fsA:=fs
     clear hR htc hf1 hm
     go_wp2_with (first
      |(go_at_call 56;go_loud (refine cn9.mono ?_;rintro r w8 ⟨rfl,hb8⟩;have fs8:=fsA.below hb8))
      |(go_at_call 97;go_loud (refine (Zh2 fs8.rp.z hkc9 hn9).mono ?_;rintro r w9 ⟨rfl,ht9,z9⟩;generalize Zaq (l[kz]'hk')=tv9;have fs9:=fs8.over ht9 z9;obtain⟨o0,o1,o2,o3,o4⟩:=fs9.pp.facts;obtain⟨b0,b1,b2,b3,b4⟩:=fs9.pr.facts;have v0:=fs9.pr.free 0;have v1:=fs9.pr.free 1;have v2:=fs9.pr.free 2;have v3:=fs9.pr.free 3;have v4:=fs9.pr.free 4;have hpr9:=fs9.hPR;have hpr8:=Ne.symm fs9.hPR)))
     refine bodyPost_ret (v:=Zid ⟨ts,0,ts2,p2,.slice kad js.length kcp⟩) (by simp[results,results150,go_sem,b0,b1,b2,b3,b4]) rfl ?_
     rw[hRR.out]
     exact Zrt fs fs9 (Zaa.trans (Zaa.of_below hb8) ht9) rfl hpre hrep (Zgu fs.pr (by decide)) (by omega)
    ·-- C
     have hRS:Aside (Rr=Zor es (Znh f (d+1) (if sn<0 then sn else sn-js.length) (pE (pL f) (d+1) (Zan l kz)))):=by
      show _=_
      rw[hR,htc,Znv (by omega) (fun _=>hcls)]
      rw[if_pos hneg]
     have IHf:=IH f (by omega)
     have hm2:0≤sn→(js.length:Int)+1≤sn:=by omega
     have hFS:Aside (FS base rb tb cap l fv (.slice vad ps.length vcap) ps w w.heap.size PB ts ts2 p2 wr kad kcp js kz (d+1) 0 a pad pcp ps'):=fs
     have hRP:Aside (Zby wr (fun g=>w.heap.size≤g∧some g≠(Value.slice pad ps'.length pcp).ownBlock∧some g≠(Value.slice kad js.length kcp).ownBlock∧g≠PB) ps' ps.length es js):=hrep
     have F1:Aside ((Zan l kz).length≤f+1):=hf1
     have PP:Aside (ps <+: ps'):=hpre
     have hkc9:((Zba (l[kz]'hk').1.k)==41)=false:=Zl2 fun e=>hcls ((Zga _).1 e)
     have cn9:=Zbf fs.rp.z
     have hcv9:Zaq (l[kz]'hk')=.agg #[.int .u8 (Zba (l[kz]'hk').1.k),.string (l[kz]'hk').2,.int .i64 (((l[kz]'hk').1.at_:Nat):Int)]:=rfl
     rw[hcv9] at cn9
     generalize Zba (l[kz]'hk').1.k=tk9 at *
     generalize (l[kz]'hk').2=ts9 at *
     generalize (l[kz]'hk').1.at_=ta9 at *
     clear hR htc hf1 hm hrep hcls hcv9
     go_wp2_with (first
      |(go_at_call 56;go_loud (refine cn9.mono ?_;rintro r w8 ⟨rfl,hb8⟩;have fs8:=fs.below hb8;have sz8:=hb8.size))
      |(go_at_call 99;go_loud (refine (Zof IHf fs8.rp (by omega) (by have:=F1.out;omega)).mono ?_;rintro r w2 ⟨k2,d2,e2,a2,qad,qcp,qs,rfl,ht2,rp2,hlen2,mv2,H2⟩;have pp2:=fs8.pp.touch ht2 (by rintro (g | g);(exact absurd g (by have:=fs.hP;have:=fs.hw;omega));(exact fs.nP g));obtain⟨o0,o1,o2,o3,o4⟩:=pp2.facts;have ko2:=fs8.kept2 ht2))
      |(at_builtin;go_loud (obtain⟨i0,hi,hz0,hz1,hz2⟩:=info_parts Tryz.infoIntR;refine wpList_append_own_at _ rfl _ _ 31 rfl w.heap.size 3 i0 _ 1 8 underlying31 hi hz0 hz1 hz2 rfl (by decide) _ _ _ rfl (ko2.alloc _) ⟨w2.heap.size,0,none⟩ 1 1 [.int .i64 ((ps'.length:Nat):Int)] rfl rfl (cell_one_new _ _ _) (fun x hx=>by simp at hx;subst hx;rfl) (by unfold maxLen;omega) (by omega) (by have:=ht2.size;simp;omega) ?_;intro v' w3 own3 hg3 hnil3 hat3;clear hi hz0 hz1 hz2;obtain⟨kad2,kcp2,rfl⟩:=Zaf own3;have KID:=fs8.kid ht2 rp2 hlen2 mv2 own3 hg3 hat3;obtain⟨s0,s1,s2,s3,s4⟩:=KID.2.1.facts;have u4:=KID.2.1.free 4)))
     have NX:Aside _:=Zot.next (m:=sn) (B0:=B0) (G:=G) (Rr:=Rr) fs8 KID.1 KID.2.2.1 KID.2.2.2.1 KID.2.2.2.2 mv2 ht2.size PP.out (by omega) (by omega) (Zby.map (lo:=ps.length) (fun i q _ hq=>hq) (Nat.le_refl _) (fun sl n vs hr=>Zai hr hb8) hRP.out) F1.out hf2 hm2 hRS.out H2.out
     obtain⟨gh,hgh,hfl⟩:=NX.out
     go_roundg gh
     case measure=>exact hgh
     case rel=>(first | exact hfl | (have e:((js++[ps'.length]).length:Int)=(js.length:Int)+1:=(by simp);rw[e] at hfl;exact hfl))
   ·rw[if_neg hneg] at hR
    by_cases hij:(js.length:Int)=sn
    ·by_cases hcls:(l[kz]'hk').1.k=.cls
     ·-- B1
      have hRR:Hid (Rr=.ok es (Zan l (kz+1))):=by
       show _=_
       rw[hR,htc,Zgv (Or.inl (by omega)),if_pos hcls]
       simp[Zor]
      have hn9:=hwf.more kz hk' (by rw[hcls];decide) (by rw[hcls];decide)
      have hkc9:Zba (l[kz]'hk').1.k=41:=by rw[hcls];rfl
      clear hR htc hf1 hm
      go_wp2_with (go_at_call 97;go_loud (refine (Zh2 fs.rp.z hkc9 hn9).mono ?_;rintro r w9 ⟨rfl,ht9,z9⟩;generalize Zaq (l[kz]'hk')=tv9;have fs9:=fs.over ht9 z9;obtain⟨o0,o1,o2,o3,o4⟩:=fs9.pp.facts;obtain⟨b0,b1,b2,b3,b4⟩:=fs9.pr.facts;have v0:=fs9.pr.free 0;have v1:=fs9.pr.free 1;have v2:=fs9.pr.free 2;have v3:=fs9.pr.free 3;have v4:=fs9.pr.free 4;have hpr9:=fs9.hPR;have hpr8:=Ne.symm fs9.hPR))
      refine bodyPost_ret (v:=Zid ⟨ts,0,ts2,p2,.slice kad js.length kcp⟩) (by simp[results,results150,go_sem,b0,b1,b2,b3,b4]) rfl ?_
      rw[hRR.out]
      exact Zrt fs fs9 ht9 rfl hpre hrep (Zgu fs.pr (by decide)) (by omega)
     ·-- B2
      have hRR:Hid (Rr=.err 2 (l[kz]'hk').1.at_):=by
       show _=_
       rw[hR,htc,Zgv (Or.inl (by omega)),if_neg hcls]
       rfl
      have hkc9:Zba (l[kz]'hk').1.k≠41:=fun e=>hcls ((Zga _).1 e)
      clear hR htc hf1 hm
      go_wp2_with (go_at_call 97;go_loud (refine (Zge fs.rp.z 41 ⟨#[]⟩ hkc9).mono ?_;rintro r w9 ⟨rfl,ht9,z9⟩;generalize Zaq (l[kz]'hk')=tv9;have fs9:=fs.over ht9 z9;obtain⟨o0,o1,o2,o3,o4⟩:=fs9.pp.facts;obtain⟨b0,b1,b2,b3,b4⟩:=fs9.pr.facts;have v0:=fs9.pr.free 0;have v1:=fs9.pr.free 1;have v2:=fs9.pr.free 2;have v3:=fs9.pr.free 3;have v4:=fs9.pr.free 4;have hpr9:=fs9.hPR;have hpr8:=Ne.symm fs9.hPR))
      refine bodyPost_ret (v:=Zid ⟨ts,0,ts2,p2,.slice kad js.length kcp⟩) (by simp[results,results150,go_sem,b0,b1,b2,b3,b4]) rfl ?_
      rw[hRR.out]
      exact Zi7 fs9 (by decide)
    ·-- D
     have hRS:Aside (Rr=Zor es (Znh f (d+1) (if sn<0 then sn else sn-js.length) (pE (pL f) (d+1) (Zan l kz)))):=by
      show _=_
      rw[hR,htc,Znv (by omega) (fun h=>absurd h (by have:=hm (by omega);omega))]
      rw[if_neg hneg]
     have IHf:=IH f (by omega)
     have hm2:0≤sn→(js.length:Int)+1≤sn:=by intro _;have:=hm (by omega);omega
     have hFS:Aside (FS base rb tb cap l fv (.slice vad ps.length vcap) ps w w.heap.size PB ts ts2 p2 wr kad kcp js kz (d+1) 0 a pad pcp ps'):=fs
     have hRP:Aside (Zby wr (fun g=>w.heap.size≤g∧some g≠(Value.slice pad ps'.length pcp).ownBlock∧some g≠(Value.slice kad js.length kcp).ownBlock∧g≠PB) ps' ps.length es js):=hrep
     have F1:Aside ((Zan l kz).length≤f+1):=hf1
     have PP:Aside (ps <+: ps'):=hpre
     clear hR htc hf1 hm hrep
     go_wp2_with (first
      |(go_at_call 99;go_loud (refine (Zof IHf fs.rp (by omega) (by have:=F1.out;omega)).mono ?_;rintro r w2 ⟨k2,d2,e2,a2,qad,qcp,qs,rfl,ht2,rp2,hlen2,mv2,H2⟩;have pp2:=fs.pp.touch ht2 (by rintro (g | g);(exact absurd g (by have:=fs.hP;have:=fs.hw;omega));(exact fs.nP g));obtain⟨o0,o1,o2,o3,o4⟩:=pp2.facts;have ko2:=fs.kept2 ht2))
      |(at_builtin;go_loud (obtain⟨i0,hi,hz0,hz1,hz2⟩:=info_parts Tryz.infoIntR;refine wpList_append_own_at _ rfl _ _ 31 rfl w.heap.size 3 i0 _ 1 8 underlying31 hi hz0 hz1 hz2 rfl (by decide) _ _ _ rfl (ko2.alloc _) ⟨w2.heap.size,0,none⟩ 1 1 [.int .i64 ((ps'.length:Nat):Int)] rfl rfl (cell_one_new _ _ _) (fun x hx=>by simp at hx;subst hx;rfl) (by unfold maxLen;omega) (by omega) (by have:=ht2.size;simp;omega) ?_;intro v' w3 own3 hg3 hnil3 hat3;clear hi hz0 hz1 hz2;obtain⟨kad2,kcp2,rfl⟩:=Zaf own3;have KID:=fs.kid ht2 rp2 hlen2 mv2 own3 hg3 hat3;obtain⟨s0,s1,s2,s3,s4⟩:=KID.2.1.facts;have u4:=KID.2.1.free 4)))
     have NX:Aside _:=Zot.next (m:=sn) (B0:=B0) (G:=G) (Rr:=Rr) fs KID.1 KID.2.2.1 KID.2.2.2.1 KID.2.2.2.2 mv2 ht2.size PP.out (by omega) (by omega) hRP.out F1.out hf2 hm2 hRS.out H2.out
     obtain⟨gh,hgh,hfl⟩:=NX.out
     go_roundg gh
     case measure=>exact hgh
     case rel=>(first | exact hfl | (have e:((js++[ps'.length]).length:Int)=(js.length:Int)+1:=(by simp);rw[e] at hfl;exact hfl))
  ·-- E
   have hRR:Hid (Rr=.err e' a'):=hR
   clear hR
   go_wp2_with (go_at_call 97;go_loud (refine (Zb8 fs.rp.z he 41 ⟨#[]⟩).mono ?_;rintro r w9 ⟨rfl,ht9,z9⟩;generalize Zaq (l[kz]'hk')=tv9;have fs9:=fs.over ht9 z9;obtain⟨o0,o1,o2,o3,o4⟩:=fs9.pp.facts;obtain⟨b0,b1,b2,b3,b4⟩:=fs9.pr.facts;have v0:=fs9.pr.free 0;have v1:=fs9.pr.free 1;have v2:=fs9.pr.free 2;have v3:=fs9.pr.free 3;have v4:=fs9.pr.free 4;have hpr9:=fs9.hPR;have hpr8:=Ne.symm fs9.hPR))
   refine bodyPost_ret (v:=Zid ⟨ts,0,ts2,p2,.slice kad js.length kcp⟩) (by simp[results,results150,go_sem,b0,b1,b2,b3,b4]) rfl ?_
   rw[hRR.out]
   exact Zi7 fs9 he
end
end Go.Proofs.YtliapghpeoaonaaGreatDoor
